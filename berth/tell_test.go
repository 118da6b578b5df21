package berth_test

import (
	"testing"

	"berth/api"
)

func TestStatTellsOfAJobAllItsLife(t *testing.T) {
	c := fresh(t, 1, 5, 10, 100)
	c.Do(tick(3))
	c.Do(submit(1, 10))
	c.Do(submit(1, 4))
	does(t, "P11", c, stat(1), api.Reply{A: api.Running, B: 3, C: 13})
	does(t, "P11", c, stat(2), api.Reply{A: api.Queued, B: 13, C: 17})
	c.Do(tick(10))
	does(t, "P11", c, stat(1), api.Reply{A: api.TimedOut, B: 3, C: 13})
	does(t, "P11", c, stat(2), api.Reply{A: api.Running, B: 13, C: 17})
	c.Do(tick(50))
	does(t, "P11", c, stat(1), api.Reply{A: api.TimedOut, B: 3, C: 13})
	does(t, "P11", c, stat(2), api.Reply{A: api.TimedOut, B: 13, C: 17})
}

func TestStatRefusesIDsOfNoJob(t *testing.T) {
	c := fresh(t, 1, 2, 10, 100)
	ids := []int{0, 1, 2, 3, 4, 1 << 32, 1<<32 + 1, most}
	for _, id := range ids {
		does(t, "P11", c, stat(id), api.Reply{Err: api.ErrJob})
	}
	c.Do(submit(1, 10))
	c.Do(submit(1, 10))
	c.Do(submit(1, 10)) // refused, and so no job
	c.Do(tick(5))
	for _, id := range ids {
		if id != 1 && id != 2 {
			does(t, "P11", c, stat(id), api.Reply{Err: api.ErrJob})
		}
	}
	does(t, "P11", c, stat(2), api.Reply{A: api.Queued, B: 10, C: 20})
}

// Jobs that ended long ago are still told of.
func TestStatOfManyJobs(t *testing.T) {
	const many = 2000
	c := fresh(t, 1, 1, 3, 3*many)
	for id := 1; id <= many; id++ {
		does(t, "P7", c, submit(1, 3), starts(id, 3*(id-1)))
		does(t, "P9", c, tick(3), api.Reply{Events: []api.Event{ended(id, 3*id)}})
	}
	for id := 1; id <= many; id++ {
		does(t, "P11", c, stat(id), api.Reply{A: api.TimedOut, B: 3 * (id - 1), C: 3 * id})
	}
}

func TestQueueTellsQueuedJobsByRisingIDs(t *testing.T) {
	c := fresh(t, 2, 30, 100, 1000)
	does(t, "P12", c, queue, api.Reply{})
	c.Do(submit(1, 5))
	does(t, "P12", c, queue, api.Reply{})
	c.Do(submit(2, 10))
	c.Do(submit(1, 6))
	c.Do(submit(1, 5)) // into the gap: it runs
	c.Do(submit(1, 4))
	c.Do(submit(2, 1))
	second := api.Row{ID: 2, Promise: 5, Width: 2, Wall: 10}
	third := api.Row{ID: 3, Promise: 15, Width: 1, Wall: 6}
	fifth := api.Row{ID: 5, Promise: 15, Width: 1, Wall: 4}
	sixth := api.Row{ID: 6, Promise: 21, Width: 2, Wall: 1}
	does(t, "P12", c, queue, api.Reply{Rows: []api.Row{second, third, fifth, sixth}})
	c.Do(tick(5))
	does(t, "P12", c, queue, api.Reply{Rows: []api.Row{third, fifth, sixth}})
	c.Do(tick(15))
	does(t, "P12", c, queue, api.Reply{Rows: []api.Row{sixth}})
	c.Do(tick(1))
	does(t, "P12", c, queue, api.Reply{})
}

// A job that came later, with an earlier promise, is told behind the others all the same.
func TestQueueGoesByIDsAndNotByPromises(t *testing.T) {
	c := fresh(t, 2, 30, 100, 1000)
	c.Do(submit(1, 10))
	c.Do(submit(1, 5))
	c.Do(submit(2, 10))
	c.Do(submit(1, 5))
	does(t, "P12", c, queue, api.Reply{Rows: []api.Row{
		{ID: 3, Promise: 10, Width: 2, Wall: 10},
		{ID: 4, Promise: 5, Width: 1, Wall: 5},
	}})
}

func TestInfoCountsTimeNodesAndJobs(t *testing.T) {
	c := fresh(t, 4, 5, 100, 1000)
	does(t, "P12", c, info, api.Reply{A: 0, B: 4, C: 0})
	c.Do(submit(3, 10))
	does(t, "P12", c, info, api.Reply{A: 0, B: 1, C: 1})
	c.Do(submit(2, 5)) // queued: it has no nodes yet
	does(t, "P12", c, info, api.Reply{A: 0, B: 1, C: 2})
	c.Do(submit(1, 20))
	does(t, "P12", c, info, api.Reply{A: 0, B: 0, C: 3})
	c.Do(tick(9))
	does(t, "P12", c, info, api.Reply{A: 9, B: 0, C: 3})
	c.Do(tick(1))
	does(t, "P12", c, info, api.Reply{A: 10, B: 1, C: 2})
	c.Do(tick(6))
	does(t, "P12", c, info, api.Reply{A: 16, B: 3, C: 1})
	c.Do(tick(4))
	does(t, "P12", c, info, api.Reply{A: 20, B: 4, C: 0})
}
