package berth_test

import (
	"math"
	"strings"
	"sync"
	"testing"
	"unsafe"

	"berth/api"
	"berth/berth"
)

// oddTexts are lines such as nobody should send.
func oddTexts() []string {
	texts := []string{"", " ", "\x00", "\xff\xfe", "SUBMIT", "SUBMIT 1", "TICK 99999999999999999999", strings.Repeat("INFO ", 1<<20), strings.Repeat("9", 1<<22), "STAT " + strings.Repeat("\xf0", 95)}
	for b := 0; b < 256; b++ {
		texts = append(texts, string([]byte{byte(b)}), "STAT "+string([]byte{byte(b), byte(b)}))
	}
	return texts
}

// A refused line leaves no trace in the command, whichever of its parts was read well.
func TestP1ErrorsComeAlone(t *testing.T) {
	for _, line := range append(oddTexts(), "SUBMIT 5 x", "SUBMIT 5 6 7", "TICK 5 6", "INFO 5", "SUBMIT 5 1000000000000000000", "CANCEL 5 ") {
		c, err := berth.Parse(line)
		if (err != api.OK && err != api.ErrArg) || (err != api.OK && c != (api.Command{})) {
			t.Errorf("P1: Parse(%.40q) = %+v, %d", line, c, err)
		}
	}
}

func TestP1NoCallPanics(t *testing.T) {
	numbers := []int{math.MinInt, -1, 0, 1, 2, 64, most, api.MaxTime, math.MaxInt}
	for _, n := range numbers {
		for _, m := range numbers {
			berth.Render(api.Command{Kind: n, A: m, B: n})
			c, err := berth.New(api.Config{Nodes: n, Jobs: m, Wall: n, End: m})
			if err != api.OK {
				if c != nil {
					t.Errorf("P1: New gave a cluster and the error %d", err)
				}
				continue
			}
			c.Do(api.Command{Kind: n, A: m, B: n})
			c.Line("INFO")
		}
	}
}

// The same question has the same answer, whatever was asked before or is asked at the same time.
func TestP2AnswersHangOnTheirArgumentsAlone(t *testing.T) {
	lines := append(oddTexts(), "SUBMIT 3 10", "CANCEL 1", "DONE 2", "TICK 3", "STAT 4", "QUEUE", "INFO")
	ask := func() {
		for _, line := range lines {
			want, wantErr := expected(line)
			c, err := berth.Parse(line)
			if c != want || err != wantErr {
				t.Errorf("P2: Parse(%.40q) = %+v, %d", line, c, err)
			}
			if got := berth.Render(c); got != expectedLine(c) {
				t.Errorf("P2: Render(%+v) = %q", c, got)
			}
		}
	}
	ask()
	var all sync.WaitGroup
	for range 8 {
		all.Go(ask)
	}
	all.Wait()
}

func TestP2LinesAreNewMemory(t *testing.T) {
	for kind := api.Submit; kind <= api.Info; kind++ {
		c := api.Command{Kind: kind}
		first, second := berth.Render(c), berth.Render(c)
		if unsafe.StringData(first) == unsafe.StringData(second) {
			t.Errorf("P2: two answers of Render(%+v) are one piece of memory", c)
		}
	}
}

// Numbers that would come round to small ones if 64 bits were let wrap.
func TestP2NoSumWraps(t *testing.T) {
	for _, number := range []string{"18446744073709551616", "18446744073709551617", "9223372036854775808", "36893488147419103233", "340282366920938463463374607431768211457"} {
		for _, line := range []string{"TICK " + number, "SUBMIT 1 " + number, "SUBMIT " + number + " 1"} {
			if c, err := berth.Parse(line); c != (api.Command{}) || err != api.ErrArg {
				t.Errorf("P2: Parse(%q) = %+v, %d", line, c, err)
			}
		}
	}
	if c, _ := berth.Parse("SUBMIT 999999999999999999 999999999999999999"); c.A != most || c.B != most {
		t.Errorf("P2: the greatest numbers were read as %+v", c)
	}
}
