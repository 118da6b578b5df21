package berth_test

import (
	"math/rand"
	"reflect"
	"testing"

	"berth/api"
	"berth/berth"
)

func TestTickTellsWhatHappensInOrder(t *testing.T) {
	c := fresh(t, 4, 30, 100, 1000)
	c.Do(submit(2, 10)) // 1: 0 to 10
	c.Do(submit(2, 5))  // 2: 0 to 5
	c.Do(submit(4, 3))  // 3: 10 to 13
	c.Do(submit(1, 5))  // 4: 5 to 10
	c.Do(submit(1, 4))  // 5: 5 to 9
	c.Do(submit(1, 1))  // 6: 9 to 10
	c.Do(submit(2, 7))  // 7: 13 to 20
	c.Do(submit(2, 7))  // 8: 13 to 20
	does(t, "P9", c, tick(4), api.Reply{})
	does(t, "P9", c, tick(1), api.Reply{Events: []api.Event{ended(2, 5), started(4, 5), started(5, 5)}})
	does(t, "P9", c, tick(0), api.Reply{})
	does(t, "P9", c, tick(995), api.Reply{Events: []api.Event{
		ended(5, 9), started(6, 9),
		ended(1, 10), ended(4, 10), ended(6, 10), started(3, 10),
		ended(3, 13), started(7, 13), started(8, 13),
		ended(7, 20), ended(8, 20),
	}})
	does(t, "P9", c, info, api.Reply{A: 1000, B: 4})
}

// The ids of one moment rise, whatever order the jobs came to be due in.
func TestTickTellsOneMomentByRisingIDs(t *testing.T) {
	c := fresh(t, 30, 30, 30, 1000)
	var first, last []api.Event
	for id := 1; id <= 15; id++ {
		does(t, "P7", c, submit(2, 16-id), starts(id, 0))
	}
	does(t, "P9", c, tick(0), api.Reply{})
	for id := 16; id <= 30; id++ {
		does(t, "P7", c, submit(30, 1), waits(id, id-1))
	}
	for id := 15; id >= 1; id-- {
		first = append(first, ended(id, 16-id))
	}
	first = append(first, started(16, 15))
	does(t, "P9", c, tick(15), api.Reply{Events: first})
	for id := 16; id <= 30; id++ {
		last = append(last, ended(id, id))
		if id < 30 {
			last = append(last, started(id+1, id))
		}
	}
	does(t, "P9", c, tick(100), api.Reply{Events: last})

	c = fresh(t, 30, 30, 30, 1000)
	does(t, "P7", c, submit(30, 20), starts(1, 0))
	var begin, end []api.Event
	for id := 2; id <= 30; id++ {
		does(t, "P7", c, submit(1, 10), waits(id, 20))
		begin, end = append(begin, started(id, 20)), append(end, ended(id, 30))
	}
	does(t, "P10", c, tick(20), api.Reply{Events: append([]api.Event{ended(1, 20)}, begin...)})
	does(t, "P9", c, tick(10), api.Reply{Events: end})
}

// A job that came later may start earlier, and end at the same moment.
func TestTickEndsByIDsAndNotByStarts(t *testing.T) {
	c := fresh(t, 2, 30, 30, 1000)
	does(t, "P7", c, submit(1, 5), starts(1, 0))
	does(t, "P7", c, submit(2, 5), waits(2, 5))
	does(t, "P7", c, submit(1, 10), waits(3, 10))
	does(t, "P7", c, submit(1, 5), starts(4, 0))
	does(t, "P9", c, tick(5), api.Reply{Events: []api.Event{ended(1, 5), ended(4, 5), started(2, 5)}})
	does(t, "P9", c, tick(5), api.Reply{Events: []api.Event{ended(2, 10), started(3, 10)}})
	does(t, "P9", c, tick(2), api.Reply{})
	does(t, "P7", c, submit(1, 8), starts(5, 12))
	does(t, "P7", c, submit(1, 3), waits(6, 20))
	does(t, "P9", c, tick(8), api.Reply{Events: []api.Event{ended(3, 20), ended(5, 20), started(6, 20)}})
}

func TestTickToTheEndAndBeyond(t *testing.T) {
	for _, end := range []int{0, 1, 7, 1000} {
		c := fresh(t, 1, 5, 10, end)
		does(t, "P9", c, tick(end+1), api.Reply{Err: api.ErrTime})
		does(t, "P9", c, tick(most), api.Reply{Err: api.ErrTime})
		does(t, "P9", c, tick(end/2), api.Reply{})
		does(t, "P9", c, tick(end-end/2+1), api.Reply{Err: api.ErrTime})
		does(t, "P9", c, info, api.Reply{A: end / 2, B: 1})
		does(t, "P9", c, tick(end-end/2), api.Reply{})
		does(t, "P9", c, tick(0), api.Reply{})
		does(t, "P9", c, tick(1), api.Reply{Err: api.ErrTime})
		does(t, "P9", c, info, api.Reply{A: end, B: 1})
	}
}

// What is due at the end of time itself still happens; what is due later never does.
func TestTickAtTheEndStillEndsAndStarts(t *testing.T) {
	c := fresh(t, 1, 5, 10, 10)
	c.Do(submit(1, 10))
	c.Do(submit(1, 1))
	does(t, "P9", c, tick(11), api.Reply{Err: api.ErrTime})
	does(t, "P9", c, stat(1), api.Reply{A: api.Running, B: 0, C: 10})
	does(t, "P9", c, tick(10), api.Reply{Events: []api.Event{ended(1, 10), started(2, 10)}})
	does(t, "P9", c, tick(1), api.Reply{Err: api.ErrTime})
	does(t, "P9", c, stat(2), api.Reply{A: api.Running, B: 10, C: 11})
}

// One great step tells the same as many little ones.
func TestTickByMuchIsTickByLittleOftenOver(t *testing.T) {
	r := rand.New(rand.NewSource(3))
	for range 100 {
		nodes := 1 + r.Intn(8)
		once, often := fresh(t, nodes, 30, 20, 10000), fresh(t, nodes, 30, 20, 10000)
		for range 30 {
			x := submit(1+r.Intn(nodes), 1+r.Intn(20))
			does(t, "P9", often, x, once.Do(x))
		}
		by := r.Intn(700)
		var events []api.Event
		for range by {
			events = append(events, often.Do(tick(1)).Events...)
		}
		does(t, "P9", once, tick(by), api.Reply{Events: events})
		sameState(t, "P9", once, often, 30)
	}
}

// A job runs from its start on, and is queued up to the moment before.
func TestJobsStartJustAtTheirPromise(t *testing.T) {
	c := fresh(t, 2, 5, 10, 100)
	does(t, "P10", c, submit(1, 10), starts(1, 0))
	does(t, "P10", c, stat(1), api.Reply{A: api.Running, B: 0, C: 10})
	does(t, "P10", c, submit(2, 5), waits(2, 10))
	does(t, "P10", c, stat(2), api.Reply{A: api.Queued, B: 10, C: 15})
	does(t, "P10", c, tick(9), api.Reply{})
	does(t, "P10", c, stat(2), api.Reply{A: api.Queued, B: 10, C: 15})
	does(t, "P10", c, tick(1), api.Reply{Events: []api.Event{ended(1, 10), started(2, 10)}})
	does(t, "P10", c, stat(2), api.Reply{A: api.Running, B: 10, C: 15})
	does(t, "P10", c, tick(0), api.Reply{})
}

// sameState asks two clusters all that can be asked without a change.
func sameState(t *testing.T, promise string, one, other *berth.Cluster, ids int) {
	t.Helper()
	questions := []api.Command{info, queue}
	for id := 0; id <= ids+1; id++ {
		questions = append(questions, stat(id))
	}
	for _, x := range questions {
		if a, b := one.Do(x), other.Do(x); !reflect.DeepEqual(a, b) {
			t.Errorf("%s: Do(%+v) = %+v and %+v", promise, x, a, b)
		}
	}
}
