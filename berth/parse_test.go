package berth_test

import (
	"regexp"
	"strconv"
	"strings"
	"testing"

	"berth/api"
	"berth/berth"
)

const most = 999999999999999999

// words are the commands' words by their kinds, as the document tells them.
var words = map[string]int{"SUBMIT": 1, "CANCEL": 2, "DONE": 3, "TICK": 4, "STAT": 5, "QUEUE": 6, "INFO": 7}

var grammar = regexp.MustCompile(`\A(?:(SUBMIT) ([0-9]{1,18}) ([0-9]{1,18})|(CANCEL|DONE|TICK|STAT) ([0-9]{1,18})|(QUEUE|INFO))\z`)

// expected reads a line by the grammar of P3, in another way than the program does.
func expected(line string) (api.Command, api.Errno) {
	m := grammar.FindStringSubmatch(line)
	if m == nil || len(line) > api.MaxLine {
		return api.Command{}, api.ErrArg
	}
	number := func(s string) int {
		n, _ := strconv.Atoi("0" + s)
		return n
	}
	return api.Command{Kind: words[m[1]+m[4]+m[6]], A: number(m[2] + m[5]), B: number(m[3])}, api.OK
}

func checkParse(t *testing.T, line string) {
	t.Helper()
	want, wantErr := expected(line)
	if got, err := berth.Parse(line); got != want || err != wantErr {
		t.Errorf("P3: Parse(%.60q) = %+v, %d, want %+v, %d", line, got, err, want, wantErr)
	}
}

func TestParseReadsCommands(t *testing.T) {
	for _, c := range []struct {
		line string
		want api.Command
	}{
		{"SUBMIT 3 10", api.Command{Kind: api.Submit, A: 3, B: 10}},
		{"SUBMIT 0 0", api.Command{Kind: api.Submit}},
		{"SUBMIT 999999999999999999 1", api.Command{Kind: api.Submit, A: most, B: 1}},
		{"SUBMIT 1 999999999999999999", api.Command{Kind: api.Submit, A: 1, B: most}},
		{"SUBMIT 000000000000000000 000000000000000009", api.Command{Kind: api.Submit, B: 9}},
		{"CANCEL 1", api.Command{Kind: api.Cancel, A: 1}},
		{"CANCEL 100000000000000000", api.Command{Kind: api.Cancel, A: 100000000000000000}},
		{"DONE 2", api.Command{Kind: api.Done, A: 2}},
		{"TICK 0", api.Command{Kind: api.Tick}},
		{"TICK 123456789012345678", api.Command{Kind: api.Tick, A: 123456789012345678}},
		{"STAT 999999999999999999", api.Command{Kind: api.Stat, A: most}},
		{"STAT 0004", api.Command{Kind: api.Stat, A: 4}},
		{"QUEUE", api.Command{Kind: api.Queue}},
		{"INFO", api.Command{Kind: api.Info}},
	} {
		if got, err := berth.Parse(c.line); got != c.want || err != api.OK {
			t.Errorf("P3: Parse(%q) = %+v, %d, want %+v", c.line, got, err, c.want)
		}
	}
}

// notCommands are lines that are no command, each for a reason of its own.
var notCommands = []string{
	"", " ", "  ", "\n", "\x00", "7", "1 2", "STOP 1", "stat 1", "Stat 1", "STA 1", "STATS 1", "STAT1", "JOB 1",
	"STAT", "STAT ", "STAT  1", " STAT 1", "STAT 1 ", "STAT 1 2", "STAT\t1", "STAT\u00a01", "STAT 1\n", "STAT 1\r\n", "STAT 1\x00",
	"STAT +1", "STAT -1", "STAT -0", "STAT 1.0", "STAT 1e1", "STAT 0x1", "STAT 1_0", "STAT a", "STAT /", "STAT :", "STAT ١", "STAT １", "STAT \xff",
	"TICK 1000000000000000000", "TICK 0000000000000000000", "TICK 0000000000000000001",
	"TICK 9223372036854775808", "TICK 18446744073709551615", "TICK 18446744073709551617",
	"SUBMIT", "SUBMIT 1", "SUBMIT 1 ", "SUBMIT  1 1", "SUBMIT 1  1", "SUBMIT 1 1 ", "SUBMIT 1 1 1", "SUBMIT 1,1", "SUBMIT x 1", "SUBMIT 1 x",
	"SUBMIT 1000000000000000000 1", "SUBMIT 1 1000000000000000000",
	"CANCEL", "CANCEL ", "CANCEL  1", "CANCEL -1", "CANCEL 1 1", "cancel 1", "DONE", "DONE 1 ", "DONE +1", "DONE 1 1", "done 1",
	"tick 1", "submit 1 1", "queue", "info", "QUEUE ", "QUEUE 0", "QUEUE 1", " QUEUE", "QUEUEINFO", "INFO 0", "INFO 1 2", "INFO\n",
}

func TestParseRefuses(t *testing.T) {
	for _, line := range notCommands {
		if got, err := berth.Parse(line); got != (api.Command{}) || err != api.ErrArg {
			t.Errorf("P3: Parse(%q) = %+v, %d, want it refused", line, got, err)
		}
	}
}

// No command is as long as MaxLine: what stands at the bound is refused on both sides of it.
func TestParseRefusesLongLines(t *testing.T) {
	for _, size := range []int{api.MaxLine - 1, api.MaxLine, api.MaxLine + 1, 1 << 20} {
		for _, line := range []string{
			"STAT " + strings.Repeat("0", size-5),
			"STAT 1" + strings.Repeat(" ", size-6),
			"STAT" + strings.Repeat(" ", size-5) + "1",
			strings.Repeat(" ", size),
			strings.Repeat("INFO", size/4),
			strings.Repeat("\xff", size),
			"INFO" + strings.Repeat("\x00", size-4),
		} {
			if got, err := berth.Parse(line); got != (api.Command{}) || err != api.ErrArg {
				t.Errorf("P3: Parse of %d bytes, %.20q = %+v, %d, want it refused", len(line), line, got, err)
			}
		}
	}
}

func TestParseOfEveryDigitCount(t *testing.T) {
	for digits := 0; digits <= 40; digits++ {
		for _, d := range []string{"0", "1", "9"} {
			number := strings.Repeat(d, digits)
			for _, line := range []string{"CANCEL ", "DONE ", "TICK ", "STAT ", "SUBMIT 1 "} {
				checkParse(t, line+number)
			}
			checkParse(t, "SUBMIT "+number+" 1")
		}
	}
}

// One byte changed, dropped or put in, at every place, by every byte.
func TestParseOfNearlyCommands(t *testing.T) {
	for _, line := range []string{"SUBMIT 3 10", "SUBMIT 999999999999999999 000000000000000000", "CANCEL 7", "DONE 12", "TICK 123456789012345678", "STAT 0", "QUEUE", "INFO"} {
		checkParse(t, line)
		for i := 0; i <= len(line); i++ {
			for b := 0; b < 256; b++ {
				checkParse(t, line[:i]+string([]byte{byte(b)})+line[i:])
				if i < len(line) {
					checkParse(t, line[:i]+string([]byte{byte(b)})+line[i+1:])
				}
			}
			if i < len(line) {
				checkParse(t, line[:i]+line[i+1:])
			}
		}
	}
}

func TestParseOfEveryCountOfNumbers(t *testing.T) {
	for word := range words {
		for n := 0; n <= 4; n++ {
			checkParse(t, word+strings.Repeat(" 5", n))
		}
	}
}

func FuzzParse(f *testing.F) {
	for _, line := range []string{"", "SUBMIT 3 10", "CANCEL 7", "DONE 12", "TICK 0", "STAT 0004", "QUEUE", "INFO", "STAT +1"} {
		f.Add(line)
	}
	f.Fuzz(func(t *testing.T, line string) { checkParse(t, line) })
}
