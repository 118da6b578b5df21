package berth_test

import (
	"math"
	"strconv"
	"strings"
	"testing"

	"berth/api"
	"berth/berth"
)

// counts are how many numbers the commands have, by their kinds.
var counts = map[int]int{api.Submit: 2, api.Cancel: 1, api.Done: 1, api.Tick: 1, api.Stat: 1, api.Queue: 0, api.Info: 0}

// edges are numbers on both sides of every bound of P4, and far outside.
var edges = []int{math.MinInt, math.MinInt + 1, -most - 1, -most, -1 << 32, -10, -1, 0, 1, 9, 10, 42, 1<<32 - 1, 1 << 32, most - 1, most, most + 1, api.MaxTime, math.MaxInt - 1, math.MaxInt}

func expectedLine(c api.Command) string {
	count, ok := counts[c.Kind]
	if !ok {
		return ""
	}
	line := ""
	for word, kind := range words {
		if kind == c.Kind {
			line = word
		}
	}
	for i, n := range []int{c.A, c.B} {
		if i >= count && n != 0 || n < 0 || n > most {
			return ""
		}
		if i < count {
			line += " " + strconv.Itoa(n)
		}
	}
	return line
}

func checkRender(t *testing.T, c api.Command) {
	t.Helper()
	line := berth.Render(c)
	if want := expectedLine(c); line != want {
		t.Errorf("P4: Render(%+v) = %q, want %q", c, line, want)
	}
	if line == "" {
		return
	}
	if back, err := berth.Parse(line); back != c || err != api.OK {
		t.Errorf("P4: Parse(Render(%+v)) = %+v, %d", c, back, err)
	}
}

func TestRenderWritesCommands(t *testing.T) {
	for _, c := range []struct {
		c    api.Command
		want string
	}{
		{api.Command{Kind: api.Submit, A: 3, B: 10}, "SUBMIT 3 10"},
		{api.Command{Kind: api.Submit}, "SUBMIT 0 0"},
		{api.Command{Kind: api.Submit, A: most, B: most}, "SUBMIT 999999999999999999 999999999999999999"},
		{api.Command{Kind: api.Cancel, A: 100}, "CANCEL 100"},
		{api.Command{Kind: api.Done, A: 1}, "DONE 1"},
		{api.Command{Kind: api.Tick}, "TICK 0"},
		{api.Command{Kind: api.Tick, A: most}, "TICK 999999999999999999"},
		{api.Command{Kind: api.Stat, A: 7}, "STAT 7"},
		{api.Command{Kind: api.Queue}, "QUEUE"},
		{api.Command{Kind: api.Info}, "INFO"},
	} {
		if got := berth.Render(c.c); got != c.want {
			t.Errorf("P4: Render(%+v) = %q, want %q", c.c, got, c.want)
		}
	}
}

func TestRenderRefuses(t *testing.T) {
	for _, c := range []api.Command{
		{}, {Kind: -1}, {Kind: api.Info + 1}, {Kind: math.MinInt}, {Kind: math.MaxInt}, {Kind: 1<<32 + api.Info}, {A: 1},
		{Kind: api.Submit, A: -1}, {Kind: api.Submit, B: -1}, {Kind: api.Submit, A: most + 1}, {Kind: api.Submit, B: most + 1},
		{Kind: api.Cancel, A: -1}, {Kind: api.Done, A: most + 1}, {Kind: api.Tick, A: math.MinInt}, {Kind: api.Stat, A: math.MaxInt},
		{Kind: api.Cancel, B: 1}, {Kind: api.Done, A: 1, B: -1}, {Kind: api.Tick, B: math.MinInt}, {Kind: api.Stat, A: 1, B: most},
		{Kind: api.Queue, A: 1}, {Kind: api.Queue, B: 1}, {Kind: api.Info, A: -1}, {Kind: api.Info, B: math.MaxInt},
	} {
		if got := berth.Render(c); got != "" {
			t.Errorf("P4: Render(%+v) = %q, want it refused", c, got)
		}
	}
}

func TestRenderAtEveryEdge(t *testing.T) {
	kinds := append([]int{2, 3, 4, 5, 6, 7, 8}, edges...)
	for _, kind := range kinds {
		for _, a := range edges {
			for _, b := range edges {
				checkRender(t, api.Command{Kind: kind, A: a, B: b})
			}
		}
	}
}

// What Parse read with zeros ahead is written without them.
func TestRenderDropsZeros(t *testing.T) {
	for zeros := 0; zeros <= 16; zeros++ {
		ahead := strings.Repeat("0", zeros)
		c, err := berth.Parse("SUBMIT " + ahead + "40 " + ahead + "05")
		if got := berth.Render(c); err != api.OK || got != "SUBMIT 40 5" {
			t.Errorf("P4: with %d zeros ahead: %q, %d", zeros, got, err)
		}
	}
}

func FuzzRender(f *testing.F) {
	f.Add(api.Submit, 3, 10)
	f.Add(api.Tick, most, 0)
	f.Add(api.Info, 0, 1)
	f.Fuzz(func(t *testing.T, kind, a, b int) { checkRender(t, api.Command{Kind: kind, A: a, B: b}) })
}
