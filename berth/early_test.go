package berth_test

import (
	"math/rand"
	"testing"

	"berth/api"
	"berth/berth"
)

// way is one of the commands that end a running job early, and the phase it leaves the job in.
type way struct {
	command func(id int) api.Command
	phase   int
}

func ways() []way { return []way{{cancel, api.Cancelled}, {done, api.Finished}} }

// submitted is a cluster of so many nodes that has been given jobs of these widths and walls.
func submitted(t *testing.T, nodes int, jobs ...[2]int) *berth.Cluster {
	t.Helper()
	c := fresh(t, nodes, 30, 100, 1000)
	for _, job := range jobs {
		if r := c.Do(submit(job[0], job[1])); r.Err != api.OK {
			t.Fatalf("Do(%+v) = %+v", submit(job[0], job[1]), r)
		}
	}
	return c
}

func TestARunningJobEndsEarly(t *testing.T) {
	for _, way := range ways() {
		c := submitted(t, 2, [2]int{2, 10}, [2]int{1, 5}, [2]int{2, 5})
		does(t, "P8", c, tick(4), api.Reply{})
		does(t, "P8", c, way.command(1), tells(moved(2, 10, 4), moved(3, 15, 9), started(2, 4)))
		does(t, "P11", c, stat(1), api.Reply{A: way.phase, B: 0, C: 4})
		does(t, "P11", c, stat(2), api.Reply{A: api.Running, B: 4, C: 9})
		does(t, "P11", c, stat(3), api.Reply{A: api.Queued, B: 9, C: 14})
		does(t, "P12", c, queue, api.Reply{Rows: []api.Row{{ID: 3, Promise: 9, Width: 2, Wall: 5}}})
		does(t, "P12", c, info, api.Reply{A: 4, B: 1, C: 2})
	}
}

func TestAQueuedJobIsCancelled(t *testing.T) {
	c := submitted(t, 2, [2]int{2, 10}, [2]int{2, 10}, [2]int{1, 10}, [2]int{2, 10})
	does(t, "P8", c, tick(3), api.Reply{})
	does(t, "P8", c, cancel(2), tells(moved(3, 20, 10), moved(4, 30, 20)))
	does(t, "P11", c, stat(2), api.Reply{A: api.Cancelled, B: 3, C: 3})
	does(t, "P12", c, queue, api.Reply{Rows: []api.Row{{ID: 3, Promise: 10, Width: 1, Wall: 10}, {ID: 4, Promise: 20, Width: 2, Wall: 10}}})
	does(t, "P12", c, info, api.Reply{A: 3, B: 0, C: 3})
	does(t, "P8", c, cancel(4), api.Reply{})
	does(t, "P11", c, stat(4), api.Reply{A: api.Cancelled, B: 3, C: 3})
	does(t, "P9", c, tick(97), tells(ended(1, 10), started(3, 10), ended(3, 20)))
	does(t, "P11", c, stat(2), api.Reply{A: api.Cancelled, B: 3, C: 3})
	does(t, "P11", c, stat(4), api.Reply{A: api.Cancelled, B: 3, C: 3})
}

// A job may end in the very moment of its start: at once, by its promise, or moved up.
func TestAJobEndsAtTheMomentOfItsStart(t *testing.T) {
	for _, way := range ways() {
		c := submitted(t, 1, [2]int{1, 10})
		does(t, "P8", c, way.command(1), api.Reply{})
		does(t, "P11", c, stat(1), api.Reply{A: way.phase, B: 0, C: 0})
		does(t, "P12", c, info, api.Reply{A: 0, B: 1, C: 0})
		does(t, "P7", c, submit(1, 10), starts(2, 0))
		does(t, "P7", c, submit(1, 10), waits(3, 10))
		does(t, "P7", c, submit(1, 10), waits(4, 20))
		does(t, "P7", c, submit(1, 10), waits(5, 30))
		does(t, "P9", c, tick(10), tells(ended(2, 10), started(3, 10)))
		does(t, "P8", c, way.command(3), tells(moved(4, 20, 10), moved(5, 30, 20), started(4, 10)))
		does(t, "P8", c, way.command(4), tells(moved(5, 20, 10), started(5, 10)))
		does(t, "P11", c, stat(3), api.Reply{A: way.phase, B: 10, C: 10})
		does(t, "P11", c, stat(4), api.Reply{A: way.phase, B: 10, C: 10})
		does(t, "P9", c, tick(10), tells(ended(5, 20)))
	}
}

func TestAJobEndsJustAheadOfItsTime(t *testing.T) {
	for _, way := range ways() {
		c := submitted(t, 1, [2]int{1, 10}, [2]int{1, 10})
		does(t, "P8", c, tick(9), api.Reply{})
		does(t, "P8", c, way.command(1), tells(moved(2, 10, 9), started(2, 9)))
		does(t, "P11", c, stat(1), api.Reply{A: way.phase, B: 0, C: 9})
		does(t, "P9", c, tick(10), tells(ended(2, 19)))
		does(t, "P8", c, way.command(2), api.Reply{Err: api.ErrPhase})
		does(t, "P11", c, stat(2), api.Reply{A: api.TimedOut, B: 9, C: 19})
	}
}

func TestNothingMovesWhereNoRoomCameFree(t *testing.T) {
	for _, way := range ways() {
		c := submitted(t, 3, [2]int{2, 10}, [2]int{1, 10}, [2]int{3, 5}, [2]int{1, 20})
		does(t, "P8", c, tick(1), api.Reply{})
		does(t, "P8", c, way.command(2), api.Reply{}) // the first one is in the way of all
		does(t, "P12", c, info, api.Reply{A: 1, B: 1, C: 3})
		does(t, "P11", c, stat(3), api.Reply{A: api.Queued, B: 10, C: 15})
		does(t, "P11", c, stat(4), api.Reply{A: api.Queued, B: 15, C: 35})
		does(t, "P8", c, cancel(4), api.Reply{}) // nobody is behind it
		does(t, "P8", c, way.command(1), tells(moved(3, 10, 1), started(3, 1)))
		does(t, "P8", c, way.command(3), api.Reply{}) // nobody is left
		does(t, "P12", c, info, api.Reply{A: 1, B: 3, C: 0})
		does(t, "P9", c, tick(999), api.Reply{})
	}
}

// The room that came free is too short for one job, and just long enough for the next.
func TestMovesOnlyToWhereThereIsRoom(t *testing.T) {
	c := submitted(t, 2, [2]int{1, 20}, [2]int{1, 10}, [2]int{2, 5}, [2]int{1, 5}, [2]int{1, 10}, [2]int{1, 5})
	does(t, "P12", c, queue, api.Reply{Rows: []api.Row{
		{ID: 3, Promise: 20, Width: 2, Wall: 5},
		{ID: 4, Promise: 10, Width: 1, Wall: 5},
		{ID: 5, Promise: 25, Width: 1, Wall: 10},
		{ID: 6, Promise: 15, Width: 1, Wall: 5},
	}})
	does(t, "P8", c, cancel(4), tells(moved(6, 15, 10)))
	does(t, "P8", c, cancel(6), tells(moved(5, 25, 10)))
	does(t, "P9", c, tick(100), tells(ended(2, 10), started(5, 10), ended(1, 20), ended(5, 20), started(3, 20), ended(3, 25)))
}

// A job is never in its own way: it moves by less than its wall, onto what it had.
func TestMovesOverItsOwnReservation(t *testing.T) {
	c := submitted(t, 1, [2]int{1, 3}, [2]int{1, 100}, [2]int{1, 50})
	does(t, "P8", c, tick(2), api.Reply{})
	does(t, "P8", c, done(1), tells(moved(2, 3, 2), moved(3, 103, 102), started(2, 2)))
	does(t, "P8", c, tick(1), api.Reply{})
	does(t, "P8", c, done(2), tells(moved(3, 102, 3), started(3, 3)))
	does(t, "P11", c, stat(3), api.Reply{A: api.Running, B: 3, C: 53})
}

// The lower id takes the room, even where a higher one is promised an earlier start.
func TestMovesByRisingIDs(t *testing.T) {
	c := submitted(t, 2, [2]int{1, 30}, [2]int{1, 10}, [2]int{2, 5}, [2]int{1, 12}, [2]int{1, 10}, [2]int{1, 8})
	does(t, "P12", c, queue, api.Reply{Rows: []api.Row{
		{ID: 3, Promise: 30, Width: 2, Wall: 5},
		{ID: 4, Promise: 10, Width: 1, Wall: 12},
		{ID: 5, Promise: 35, Width: 1, Wall: 10},
		{ID: 6, Promise: 22, Width: 1, Wall: 8},
	}})
	does(t, "P8", c, cancel(2), tells(moved(4, 10, 0), moved(5, 35, 12), started(4, 0)))
	does(t, "P8", c, done(4), tells(moved(5, 12, 0), moved(6, 22, 10), started(5, 0)))
}

// What moves makes room for a lower id only in the next round.
func TestMovesInASecondRoundBecauseAnotherMovedInTheFirst(t *testing.T) {
	for _, way := range ways() {
		c := submitted(t, 2, [2]int{1, 10}, [2]int{1, 20}, [2]int{2, 5}, [2]int{1, 10})
		does(t, "P11", c, stat(3), api.Reply{A: api.Queued, B: 20, C: 25})
		does(t, "P11", c, stat(4), api.Reply{A: api.Queued, B: 10, C: 20})
		does(t, "P8", c, way.command(2), tells(moved(4, 10, 0), moved(3, 20, 10), started(4, 0)))
		does(t, "P11", c, stat(3), api.Reply{A: api.Queued, B: 10, C: 15})
	}
}

func TestMovesAgainAndAgain(t *testing.T) {
	for _, s := range []struct {
		why    string
		nodes  int
		jobs   [][2]int
		cancel int
		want   []api.Event
	}{
		{"one moves in two rounds", 2, [][2]int{{2, 2}, {1, 2}, {2, 1}, {1, 1}}, 1, []api.Event{
			moved(2, 2, 0), moved(3, 4, 3), moved(4, 2, 0),
			moved(3, 3, 2),
			started(2, 0), started(4, 0),
		}},
		{"each of three rounds makes the next one", 3, [][2]int{{1, 2}, {1, 6}, {3, 5}, {2, 1}, {1, 1}, {1, 1}}, 2, []api.Event{
			moved(3, 6, 3), moved(6, 1, 0),
			moved(4, 2, 1),
			moved(3, 3, 2),
			started(6, 0),
		}},
		{"one moves in three rounds", 4, [][2]int{{3, 6}, {2, 5}, {1, 2}, {4, 2}, {2, 3}, {1, 1}}, 1, []api.Event{
			moved(2, 6, 0), moved(4, 11, 9), moved(5, 6, 3), moved(6, 2, 0),
			moved(4, 9, 6), moved(5, 3, 2),
			moved(4, 6, 5),
			started(2, 0), started(6, 0),
		}},
		{"starts go by ids, not by the rounds of their moves", 4, [][2]int{{2, 2}, {2, 5}, {4, 2}, {3, 2}, {1, 4}, {1, 2}}, 2, []api.Event{
			moved(3, 5, 4), moved(4, 7, 2), moved(5, 7, 6), moved(6, 2, 0),
			moved(5, 6, 0),
			started(5, 0), started(6, 0),
		}},
	} {
		t.Log(s.why)
		does(t, "P8", submitted(t, s.nodes, s.jobs...), cancel(s.cancel), tells(s.want...))
	}
}

// However often a job was promised anew, it starts and ends once, at the newest promise.
func TestAMovedJobStartsAndEndsOnce(t *testing.T) {
	c := submitted(t, 1, [2]int{1, 10}, [2]int{1, 10}, [2]int{1, 10}, [2]int{1, 10})
	does(t, "P8", c, cancel(2), tells(moved(3, 20, 10), moved(4, 30, 20)))
	does(t, "P8", c, tick(4), api.Reply{})
	does(t, "P8", c, done(1), tells(moved(3, 10, 4), moved(4, 20, 14), started(3, 4)))
	does(t, "P10", c, tick(6), api.Reply{})                         // to 10, where 1 would have ended, and 2 and 3 started
	does(t, "P10", c, tick(4), tells(ended(3, 14), started(4, 14))) // to 14
	does(t, "P10", c, tick(10), tells(ended(4, 24)))                // to 24, past the old promise at 20
	does(t, "P10", c, tick(976), api.Reply{})                       // to the end, past all old promises
	does(t, "P11", c, stat(3), api.Reply{A: api.TimedOut, B: 4, C: 14})
	does(t, "P11", c, stat(4), api.Reply{A: api.TimedOut, B: 14, C: 24})
}

// A promise that was bettered but lies ahead is kept like any other.
func TestABetteredPromiseIsKept(t *testing.T) {
	c := submitted(t, 2, [2]int{1, 10}, [2]int{2, 10}, [2]int{2, 10})
	does(t, "P8", c, tick(2), api.Reply{})
	does(t, "P8", c, cancel(2), tells(moved(3, 20, 10)))
	does(t, "P9", c, tick(7), api.Reply{})
	does(t, "P11", c, stat(3), api.Reply{A: api.Queued, B: 10, C: 20})
	does(t, "P9", c, tick(1), tells(ended(1, 10), started(3, 10)))
	does(t, "P9", c, tick(10), tells(ended(3, 20)))
	does(t, "P9", c, tick(980), api.Reply{})
}

func TestSubmitsIntoTheRoomThatCameFree(t *testing.T) {
	for _, way := range ways() {
		c := submitted(t, 4, [2]int{4, 10}, [2]int{3, 10})
		does(t, "P8", c, tick(3), api.Reply{})
		does(t, "P8", c, way.command(1), tells(moved(2, 10, 3), started(2, 3)))
		does(t, "P7", c, submit(2, 5), waits(3, 13))
		does(t, "P7", c, submit(1, 10), starts(4, 3))
		does(t, "P7", c, submit(4, 1), waits(5, 18))
		does(t, "P8", c, cancel(3), tells(moved(5, 18, 13)))
		does(t, "P7", c, submit(2, 5), waits(6, 14))
		does(t, "P8", c, cancel(5), tells(moved(6, 14, 13)))
		does(t, "P7", c, submit(2, 5), waits(7, 13))
	}
}

// Jobs that ended early are not live any more, and their ids are not given again.
func TestJobsThatEndedEarlyDoNotCount(t *testing.T) {
	c := fresh(t, 1, 2, 10, 100)
	for id := 1; id < 100; id += 3 {
		does(t, "P7", c, submit(1, 10), starts(id, 0))
		does(t, "P7", c, submit(1, 10), waits(id+1, 10))
		does(t, "P7", c, submit(1, 10), api.Reply{Err: api.ErrFull})
		does(t, "P8", c, cancel(id+1), api.Reply{})
		does(t, "P12", c, info, api.Reply{A: 0, B: 0, C: 1})
		does(t, "P7", c, submit(1, 5), waits(id+2, 10))
		does(t, "P8", c, done(id), tells(moved(id+2, 10, 0), started(id+2, 0)))
		does(t, "P8", c, cancel(id+2), api.Reply{})
		does(t, "P12", c, info, api.Reply{A: 0, B: 1, C: 0})
	}
	does(t, "P9", c, tick(100), api.Reply{})
}

func TestCancelAndDoneRefuseIDsOfNoJob(t *testing.T) {
	for _, way := range ways() {
		c := fresh(t, 1, 2, 10, 100)
		ids := []int{0, 1, 2, 3, 4, 1 << 32, 1<<32 + 1, most}
		for _, id := range ids {
			does(t, "P8", c, way.command(id), api.Reply{Err: api.ErrJob})
		}
		c.Do(submit(1, 10))
		c.Do(submit(1, 10))
		c.Do(submit(1, 10)) // refused, and so no job
		for _, id := range ids {
			if id != 1 && id != 2 {
				does(t, "P8", c, way.command(id), api.Reply{Err: api.ErrJob})
			}
		}
		does(t, "P12", c, info, api.Reply{A: 0, B: 0, C: 2})
	}
}

func TestCancelAndDoneRefuseJobsThatAreNotLive(t *testing.T) {
	for _, way := range ways() {
		c := submitted(t, 1, [2]int{1, 10}, [2]int{1, 10}, [2]int{1, 10}, [2]int{1, 10}, [2]int{1, 10})
		does(t, "P8", c, tick(10), tells(ended(1, 10), started(2, 10)))
		does(t, "P8", c, done(2), tells(moved(3, 20, 10), moved(4, 30, 20), moved(5, 40, 30), started(3, 10)))
		does(t, "P8", c, cancel(3), tells(moved(4, 20, 10), moved(5, 30, 20), started(4, 10)))
		does(t, "P8", c, cancel(5), api.Reply{})
		does(t, "P8", c, tick(3), api.Reply{})
		for _, id := range []int{1, 2, 3, 5} {
			does(t, "P8", c, way.command(id), api.Reply{Err: api.ErrPhase})
		}
		does(t, "P11", c, stat(1), api.Reply{A: api.TimedOut, B: 0, C: 10})
		does(t, "P11", c, stat(2), api.Reply{A: api.Finished, B: 10, C: 10})
		does(t, "P11", c, stat(3), api.Reply{A: api.Cancelled, B: 10, C: 10})
		does(t, "P11", c, stat(4), api.Reply{A: api.Running, B: 10, C: 20})
		does(t, "P11", c, stat(5), api.Reply{A: api.Cancelled, B: 10, C: 10})
		does(t, "P12", c, info, api.Reply{A: 13, B: 0, C: 1})
	}
}

func TestDoneRefusesQueuedJobs(t *testing.T) {
	c := submitted(t, 1, [2]int{1, 10}, [2]int{1, 10})
	does(t, "P8", c, tick(9), api.Reply{})
	does(t, "P8", c, done(2), api.Reply{Err: api.ErrPhase})
	does(t, "P11", c, stat(2), api.Reply{A: api.Queued, B: 10, C: 20})
	does(t, "P9", c, tick(1), tells(ended(1, 10), started(2, 10)))
	does(t, "P8", c, done(2), api.Reply{})
}

// Time goes on behind jobs that moved as it would have in little steps.
func TestTickBehindMovesIsTickByLittleOftenOver(t *testing.T) {
	r := rand.New(rand.NewSource(8))
	for range 100 {
		config := api.Config{Nodes: 1 + r.Intn(8), Jobs: 30, Wall: 20, End: 100000}
		once, often := fresh(t, config.Nodes, config.Jobs, config.Wall, config.End), fresh(t, config.Nodes, config.Jobs, config.Wall, config.End)
		given := 0
		for range 60 {
			x := draw(r, config, given)
			if x.Kind == api.Tick {
				x.A %= 10
			}
			reply := once.Do(x)
			does(t, "P8", often, x, reply)
			if x.Kind == api.Submit && reply.Err == api.OK {
				given = reply.A
			}
		}
		by := r.Intn(700)
		var events []api.Event
		for range by {
			events = append(events, often.Do(tick(1)).Events...)
		}
		does(t, "P9", once, tick(by), tells(events...))
		sameState(t, "P9", once, often, given)
	}
}
