package berth_test

import (
	"testing"

	"berth/api"
)

func TestSubmitPromisesTheLeastTimeWithRoom(t *testing.T) {
	c := fresh(t, 4, 30, 100, 1000)
	for _, s := range []struct {
		x    api.Command
		want api.Reply
		why  string
	}{
		{submit(3, 10), starts(1, 0), "nothing is in its way"},
		{submit(2, 5), waits(2, 10), "one node is free"},
		{submit(1, 10), starts(3, 0), "just the one that is free"},
		{submit(1, 1), waits(4, 10), "none is free"},
		{submit(4, 3), waits(5, 15), "it needs all"},
		{submit(2, 5), waits(6, 18), "one of its moments has too few"},
		{submit(1, 5), waits(7, 10), "into the gap, to its last moment"},
		{submit(1, 5), waits(8, 18), "one moment longer than the gap that is left"},
		{submit(1, 4), waits(9, 11), "just the gap that is left"},
		{submit(1, 6), waits(10, 18), "beside two that start then"},
		{submit(4, 100), waits(11, 24), "behind all"},
		{submit(1, 1), waits(12, 23), "into a gap of one moment"},
	} {
		t.Log(s.why)
		does(t, "P7", c, s.x, s.want)
	}
}

// Room is asked for moment by moment: the two wide jobs never run together, so that the long one fits beside both.
func TestSubmitDoesNotAddUpJobsOfDifferentMoments(t *testing.T) {
	c := fresh(t, 3, 30, 100, 1000)
	does(t, "P7", c, submit(2, 10), starts(1, 0))
	does(t, "P7", c, submit(2, 10), waits(2, 10))
	does(t, "P7", c, submit(1, 20), starts(3, 0))
	does(t, "P7", c, submit(1, 1), waits(4, 20))
}

// A gap in the middle that is too short, or too narrow, is passed over for a later one.
func TestSubmitPassesOverGapsThatDoNotFit(t *testing.T) {
	c := fresh(t, 2, 30, 100, 1000)
	does(t, "P7", c, submit(1, 5), starts(1, 0))
	does(t, "P7", c, submit(2, 10), waits(2, 5))
	does(t, "P7", c, submit(1, 6), waits(3, 15))
	does(t, "P7", c, submit(2, 5), waits(4, 21))
	does(t, "P7", c, submit(1, 7), waits(5, 26))
	does(t, "P7", c, submit(1, 6), waits(6, 15))
	does(t, "P7", c, submit(1, 5), starts(7, 0))
	does(t, "P7", c, submit(2, 1), waits(8, 33))
}

func TestSubmitLooksFromNowOn(t *testing.T) {
	c := fresh(t, 2, 30, 100, 1000)
	does(t, "P7", c, submit(2, 10), starts(1, 0))
	does(t, "P7", c, tick(9), api.Reply{})
	does(t, "P7", c, submit(2, 1), waits(2, 10))
	does(t, "P7", c, tick(1), api.Reply{Events: []api.Event{ended(1, 10), started(2, 10)}})
	does(t, "P7", c, tick(7), api.Reply{Events: []api.Event{ended(2, 11)}})
	does(t, "P7", c, submit(2, 1), starts(3, 17))
}

func TestSubmitAsWideAsTheCluster(t *testing.T) {
	for _, nodes := range []int{1, 2, 63, api.MaxNodes} {
		c := fresh(t, nodes, 3, 10, 100)
		does(t, "P7", c, submit(nodes, 10), starts(1, 0))
		does(t, "P7", c, submit(nodes, 10), waits(2, 10))
		does(t, "P7", c, submit(1, 1), waits(3, 20))
		does(t, "P7", c, submit(nodes+1, 10), api.Reply{Err: api.ErrWidth})
	}
}

func TestSubmitRefuses(t *testing.T) {
	c := fresh(t, 4, 1, 100, 1000)
	refusals := []struct {
		x    api.Command
		want api.Errno
	}{
		{submit(0, 1), api.ErrWidth},
		{submit(5, 1), api.ErrWidth},
		{submit(most, 1), api.ErrWidth},
		{submit(1, 0), api.ErrWall},
		{submit(1, 101), api.ErrWall},
		{submit(1, most), api.ErrWall},
		{submit(0, 0), api.ErrWidth},
		{submit(5, 101), api.ErrWidth},
		{submit(most, most), api.ErrWidth},
	}
	for _, s := range refusals {
		does(t, "P7", c, s.x, api.Reply{Err: s.want})
	}
	does(t, "P7", c, submit(1, 1), starts(1, 0))
	// Width and wall are named ahead of the count.
	for _, s := range refusals {
		does(t, "P7", c, s.x, api.Reply{Err: s.want})
	}
	does(t, "P7", c, submit(1, 1), api.Reply{Err: api.ErrFull})
	does(t, "P7", c, submit(4, 100), api.Reply{Err: api.ErrFull})
}

// Queued and running jobs count, ended ones don't; refused ones take no id.
func TestSubmitUpToAsManyAsMayBeLive(t *testing.T) {
	for _, jobs := range []int{1, 2, api.MaxJobs} {
		c := fresh(t, 1, jobs, 10, 1000)
		does(t, "P7", c, submit(1, 10), starts(1, 0))
		for id := 2; id <= jobs; id++ {
			does(t, "P7", c, submit(1, 10), waits(id, 10*(id-1)))
		}
		does(t, "P7", c, submit(1, 10), api.Reply{Err: api.ErrFull})
		does(t, "P7", c, tick(9), api.Reply{})
		does(t, "P7", c, submit(1, 10), api.Reply{Err: api.ErrFull})
		c.Do(tick(1))
		want := waits(jobs+1, 10*jobs)
		if jobs == 1 {
			want = starts(2, 10)
		}
		does(t, "P7", c, submit(1, 10), want)
		does(t, "P7", c, submit(1, 10), api.Reply{Err: api.ErrFull})
	}
}

func TestSubmitAtTheBoundsOfWall(t *testing.T) {
	c := fresh(t, 1, 3, api.MaxWall, 0)
	does(t, "P7", c, submit(1, api.MaxWall), starts(1, 0))
	does(t, "P7", c, submit(1, 1), waits(2, api.MaxWall))
	does(t, "P7", c, submit(1, api.MaxWall+1), api.Reply{Err: api.ErrWall})
	c = fresh(t, 1, 3, 1, 10)
	does(t, "P7", c, submit(1, 1), starts(1, 0))
	does(t, "P7", c, submit(1, 2), api.Reply{Err: api.ErrWall})
	does(t, "P7", c, submit(1, 1), waits(2, 1))
}

// A promise may lie behind the end of time: only Tick is bound by it.
func TestSubmitAtTheEnd(t *testing.T) {
	c := fresh(t, 1, 3, 10, 0)
	does(t, "P7", c, submit(1, 10), starts(1, 0))
	does(t, "P7", c, submit(1, 10), waits(2, 10))
	does(t, "P7", c, tick(1), api.Reply{Err: api.ErrTime})
	does(t, "P7", c, stat(2), api.Reply{A: api.Queued, B: 10, C: 20})
}
