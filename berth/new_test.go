package berth_test

import (
	"math"
	"testing"

	"berth/api"
	"berth/berth"
)

// mayBe says P5 once more, with room enough that no sum can wrap.
func mayBe(c api.Config) bool {
	if c.Nodes < 1 || c.Nodes > 64 || c.Jobs < 1 || c.Jobs > 30 || c.Wall < 1 || c.Wall > 1000000000 || c.End < 0 {
		return false
	}
	return uint64(c.End)+uint64(c.Jobs)*uint64(c.Wall) <= 1<<62
}

func checkNew(t *testing.T, config api.Config) {
	t.Helper()
	c, err := berth.New(config)
	if mayBe(config) {
		if c == nil || err != api.OK {
			t.Errorf("P5: New(%+v) = %v, %d, want a cluster", config, c, err)
			return
		}
		does(t, "P5", c, info, api.Reply{B: config.Nodes})
		does(t, "P5", c, queue, api.Reply{})
		does(t, "P5", c, stat(1), api.Reply{Err: api.ErrJob})
		return
	}
	if c != nil || err != api.ErrArg {
		t.Errorf("P5: New(%+v) = %v, %d, want nil and ErrArg", config, c, err)
	}
}

func TestNewAtEveryBound(t *testing.T) {
	far := []int{math.MinInt, math.MinInt + 1, -1 << 62, -1 << 32, -1, 0, 1, 2, 1 << 32, 1<<32 + 1, 1 << 62, math.MaxInt - 1, math.MaxInt}
	nodes := append([]int{63, 64, 65}, far...)
	jobs := append([]int{29, 30, 31}, far...)
	walls := append([]int{999999999, 1000000000, 1000000001}, far...)
	for _, n := range nodes {
		for _, j := range jobs {
			for _, w := range walls {
				for _, end := range far {
					checkNew(t, api.Config{Nodes: n, Jobs: j, Wall: w, End: end})
				}
			}
		}
	}
}

// End with Jobs times Wall just below MaxTime, at it, and above.
func TestNewAtTheEndOfTime(t *testing.T) {
	for _, jobs := range []int{1, 2, 30} {
		for _, wall := range []int{1, 7, 1000000000} {
			for beside := -2; beside <= 2; beside++ {
				checkNew(t, api.Config{Nodes: 1, Jobs: jobs, Wall: wall, End: api.MaxTime - jobs*wall + beside})
			}
		}
	}
}

func TestNewOfPlainConfigs(t *testing.T) {
	for _, c := range []struct {
		config api.Config
		want   api.Errno
	}{
		{api.Config{Nodes: 4, Jobs: 5, Wall: 100, End: 1000}, api.OK},
		{api.Config{Nodes: 1, Jobs: 1, Wall: 1, End: 0}, api.OK},
		{api.Config{Nodes: 64, Jobs: 30, Wall: 1000000000, End: 1<<62 - 30000000000}, api.OK},
		{api.Config{Nodes: 64, Jobs: 30, Wall: 1000000000, End: 1<<62 - 29999999999}, api.ErrArg},
		{api.Config{}, api.ErrArg},
		{api.Config{Nodes: 0, Jobs: 5, Wall: 100, End: 1000}, api.ErrArg},
		{api.Config{Nodes: 65, Jobs: 5, Wall: 100, End: 1000}, api.ErrArg},
		{api.Config{Nodes: 4, Jobs: 0, Wall: 100, End: 1000}, api.ErrArg},
		{api.Config{Nodes: 4, Jobs: 31, Wall: 100, End: 1000}, api.ErrArg},
		{api.Config{Nodes: 4, Jobs: 5, Wall: 0, End: 1000}, api.ErrArg},
		{api.Config{Nodes: 4, Jobs: 5, Wall: 1000000001, End: 1000}, api.ErrArg},
		{api.Config{Nodes: 4, Jobs: 5, Wall: 100, End: -1}, api.ErrArg},
	} {
		if got, err := berth.New(c.config); err != c.want || (got == nil) != (err != api.OK) {
			t.Errorf("P5: New(%+v) = %v, %d, want %d", c.config, got, err, c.want)
		}
	}
}
