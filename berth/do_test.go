package berth_test

import (
	"math/rand"
	"reflect"
	"slices"
	"sync"
	"testing"

	"berth/api"
	"berth/berth"
)

// busy is a cluster with jobs in every phase: 1 timed out, 2 is finished, 3 was cancelled, 4 and 5 run, 6 and 7 are queued, no more may come.
func busy(t *testing.T) *berth.Cluster {
	t.Helper()
	c := fresh(t, 4, 4, 100, 1000)
	for _, x := range []api.Command{
		submit(3, 10), tick(10), submit(4, 10), submit(1, 5), cancel(3), tick(1), done(2),
		submit(2, 20), submit(1, 30), submit(2, 20), submit(4, 5), tick(1),
	} {
		if r := c.Do(x); r.Err != api.OK {
			t.Fatalf("Do(%+v) = %+v", x, r)
		}
	}
	return c
}

// The document's own examples, as far as they are not about lines.
func TestDoOfTheExamples(t *testing.T) {
	c := fresh(t, 4, 5, 100, 1000)
	does(t, "P6", c, submit(3, 10), starts(1, 0))
	does(t, "P6", c, submit(2, 5), waits(2, 10))
	does(t, "P6", c, submit(1, 10), starts(3, 0))
	does(t, "P6", c, submit(1, 20), waits(4, 10))
	does(t, "P6", c, submit(4, 1), waits(5, 30))
	does(t, "P6", c, submit(1, 1), api.Reply{Err: api.ErrFull})

	does(t, "P6", c, tick(4), api.Reply{})
	does(t, "P6", c, done(1), tells(moved(2, 10, 4), moved(4, 10, 4), moved(5, 30, 24), started(2, 4), started(4, 4)))
	does(t, "P6", c, stat(1), api.Reply{A: api.Finished, B: 0, C: 4})
	does(t, "P6", c, stat(5), api.Reply{A: api.Queued, B: 24, C: 25})
	does(t, "P6", c, queue, api.Reply{Rows: []api.Row{{ID: 5, Promise: 24, Width: 4, Wall: 1}}})
	does(t, "P6", c, info, api.Reply{A: 4, B: 0, C: 4})

	does(t, "P6", c, tick(6), tells(ended(2, 9), ended(3, 10)))
	does(t, "P6", c, done(2), api.Reply{Err: api.ErrPhase})
	does(t, "P6", c, cancel(4), tells(moved(5, 24, 10), started(5, 10)))
	does(t, "P6", c, tick(991), api.Reply{Err: api.ErrTime})
	does(t, "P6", c, stat(9), api.Reply{Err: api.ErrJob})
	does(t, "P6", c, stat(4), api.Reply{A: api.Cancelled, B: 4, C: 10})
}

func TestDoRefusesWhatRenderWouldNotWrite(t *testing.T) {
	c, untouched := busy(t), busy(t)
	kinds := append([]int{2, 3, 4, 5, 6, 7, 8}, edges...)
	for _, kind := range kinds {
		for _, a := range edges {
			for _, b := range edges {
				if x := (api.Command{Kind: kind, A: a, B: b}); berth.Render(x) == "" {
					does(t, "P6", c, x, api.Reply{Err: api.ErrArg})
				}
			}
		}
	}
	sameState(t, "P6", c, untouched, 7)
}

// A refused command leaves all as it was, and nothing but the error in the reply.
func TestP1RefusedCommandsChangeNothing(t *testing.T) {
	c, untouched := busy(t), busy(t)
	for _, s := range []struct {
		x    api.Command
		want api.Errno
	}{
		{api.Command{}, api.ErrArg},
		{api.Command{Kind: api.Info, A: 1}, api.ErrArg},
		{api.Command{Kind: api.Tick, A: 1, B: 1}, api.ErrArg},
		{submit(-1, 0), api.ErrArg},
		{submit(0, -1), api.ErrArg},
		{submit(0, 0), api.ErrWidth},
		{submit(5, 1), api.ErrWidth},
		{submit(1, 0), api.ErrWall},
		{submit(1, 101), api.ErrWall},
		{submit(1, 1), api.ErrFull},
		{submit(4, 100), api.ErrFull},
		{tick(989), api.ErrTime},
		{tick(most), api.ErrTime},
		{stat(0), api.ErrJob},
		{stat(8), api.ErrJob},
		{cancel(-1), api.ErrArg},
		{done(-1), api.ErrArg},
		{cancel(most + 1), api.ErrArg},
		{api.Command{Kind: api.Cancel, A: 4, B: 1}, api.ErrArg},
		{api.Command{Kind: api.Done, A: 4, B: 1}, api.ErrArg},
		{api.Command{Kind: api.Done, A: 6, B: 1}, api.ErrArg},
		{api.Command{Kind: api.Cancel, A: 8, B: -1}, api.ErrArg},
		{cancel(0), api.ErrJob},
		{done(0), api.ErrJob},
		{cancel(8), api.ErrJob},
		{done(8), api.ErrJob},
		{cancel(most), api.ErrJob},
		{done(most), api.ErrJob},
		{cancel(1), api.ErrPhase},
		{done(1), api.ErrPhase},
		{cancel(2), api.ErrPhase},
		{done(2), api.ErrPhase},
		{cancel(3), api.ErrPhase},
		{done(3), api.ErrPhase},
		{done(6), api.ErrPhase},
		{done(7), api.ErrPhase},
	} {
		does(t, "P1", c, s.x, api.Reply{Err: s.want})
		sameState(t, "P1", c, untouched, 7)
	}
	does(t, "P1", c, done(4), untouched.Do(done(4)))
	does(t, "P1", c, tick(988), untouched.Do(tick(988)))
	does(t, "P1", c, submit(1, 1), untouched.Do(submit(1, 1)))
	sameState(t, "P1", c, untouched, 8)
}

func TestP1NoCommandPanics(t *testing.T) {
	for _, config := range []api.Config{{Nodes: 1, Jobs: 1, Wall: 1}, {Nodes: 64, Jobs: 30, Wall: api.MaxWall, End: api.MaxTime - 30*api.MaxWall}} {
		c := fresh(t, config.Nodes, config.Jobs, config.Wall, config.End)
		for _, kind := range append([]int{2, 3, 4, 5, 6, 7, 8}, edges...) {
			for _, a := range append([]int{64, 65, api.MaxWall}, edges...) {
				for _, b := range append([]int{64, api.MaxWall, api.MaxWall + 1}, edges...) {
					r := c.Do(api.Command{Kind: kind, A: a, B: b})
					if r.Err != api.OK && !reflect.DeepEqual(r, api.Reply{Err: r.Err}) {
						t.Errorf("P1: refused with more than the error: %+v", r)
					}
				}
			}
		}
	}
}

// fill writes a mark all over what an answer brought, and over its spare room.
func fill(r api.Reply, mark int) {
	for i := range cap(r.Rows) {
		r.Rows[:cap(r.Rows)][i] = api.Row{ID: mark, Promise: mark, Width: mark, Wall: mark}
	}
	for i := range cap(r.Events) {
		r.Events[:cap(r.Events)][i] = api.Event{Kind: mark, ID: mark, Time: mark, To: mark}
	}
}

func isFilled(r api.Reply, mark int) bool {
	row, event := api.Row{ID: mark, Promise: mark, Width: mark, Wall: mark}, api.Event{Kind: mark, ID: mark, Time: mark, To: mark}
	return !slices.ContainsFunc(r.Rows[:cap(r.Rows)], func(x api.Row) bool { return x != row }) &&
		!slices.ContainsFunc(r.Events[:cap(r.Events)], func(x api.Event) bool { return x != event })
}

// Whatever a caller writes into answers, the next ones are right.
func TestP2AnswersAreTheCallers(t *testing.T) {
	r := rand.New(rand.NewSource(5))
	for range 50 {
		config := api.Config{Nodes: 1 + r.Intn(5), Jobs: 30, Wall: 12, End: 2000}
		c := fresh(t, config.Nodes, config.Jobs, config.Wall, config.End)
		m := model{config: config}
		for range 100 {
			x := draw(r, config, len(m.jobs))
			got, want := c.Do(x), m.do(x)
			if !reflect.DeepEqual(got, want) {
				t.Fatalf("P2: Do(%+v) = %+v, want %+v", x, got, want)
			}
			fill(got, -1)
			fill(c.Do(queue), -1)
		}
	}
}

// Whatever the cluster does later, and whatever is written into other answers, an answer stays as it was.
func TestP2AnswersStay(t *testing.T) {
	r := rand.New(rand.NewSource(7))
	config := api.Config{Nodes: 5, Jobs: 30, Wall: 12, End: 5000}
	c := fresh(t, config.Nodes, config.Jobs, config.Wall, config.End)
	var kept, copies []api.Reply
	given := 0
	for range 1000 {
		for _, x := range []api.Command{draw(r, config, given), tick(r.Intn(3)), queue, queue} {
			reply := c.Do(x)
			if x.Kind == api.Submit && reply.Err == api.OK {
				given = reply.A
			}
			kept = append(kept, reply)
			reply.Rows, reply.Events = slices.Clone(reply.Rows), slices.Clone(reply.Events)
			copies = append(copies, reply)
		}
	}
	if !reflect.DeepEqual(kept, copies) {
		t.Errorf("P2: answers that were handed out have changed")
	}
	for i, reply := range kept {
		fill(reply, i)
	}
	for i, reply := range kept {
		if !isFilled(reply, i) {
			t.Errorf("P2: answer %d shares its memory with another one", i)
		}
	}
}

func TestP2TwoClustersDoNotTouch(t *testing.T) {
	r := rand.New(rand.NewSource(6))
	configs := []api.Config{{Nodes: 2, Jobs: 7, Wall: 10, End: 400}, {Nodes: 5, Jobs: 30, Wall: 20, End: 900}, {Nodes: 2, Jobs: 7, Wall: 10, End: 400}}
	var clusters []*berth.Cluster
	var models []*model
	for _, config := range configs {
		clusters = append(clusters, fresh(t, config.Nodes, config.Jobs, config.Wall, config.End))
		models = append(models, &model{config: config})
	}
	for range 1000 {
		i := r.Intn(len(configs))
		c, m := clusters[i], models[i]
		x := draw(r, configs[i], len(m.jobs))
		does(t, "P2", c, x, m.do(x))
		follows(t, "P2", c, m, drawLine(r, configs[i], len(m.jobs)))
	}
}

// Each side ends some of its own jobs early, if another side's tick wasn't first.
func TestP2AskedFromSeveralSides(t *testing.T) {
	const sides, rounds = 16, 300
	c := fresh(t, 64, 30, 10, 1<<40)
	told := make([]map[int]int, sides) // the phase that a side knows a job to have at last
	var all sync.WaitGroup
	for i := range sides {
		told[i] = map[int]int{}
		all.Go(func() {
			for k := range rounds {
				r := c.Do(submit(1+i, 10))
				for r.Err == api.ErrFull {
					c.Do(tick(10))
					r = c.Do(submit(1+i, 10))
				}
				told[i][r.A] = api.TimedOut
				if k%3 == 0 && c.Do(cancel(r.A)).Err == api.OK {
					told[i][r.A] = api.Cancelled
				}
				if k%3 == 1 && c.Do(done(r.A)).Err == api.OK {
					told[i][r.A] = api.Finished
				}
				c.Do(queue)
				c.Do(info)
			}
		})
	}
	all.Wait()
	c.Do(tick(1000000))
	now := c.Do(info).A
	does(t, "P2", c, info, api.Reply{A: now, B: 64})
	does(t, "P2", c, queue, api.Reply{})
	ids := 0
	for _, phases := range told {
		ids += len(phases)
		for id, phase := range phases {
			if r := c.Do(stat(id)); r.Err != api.OK || r.A != phase || phase == api.TimedOut && r.C != r.B+10 {
				t.Errorf("P2: job %d = %+v, want the phase %d", id, r, phase)
			}
		}
	}
	if ids != sides*rounds {
		t.Errorf("P2: %d ids were given for %d jobs", ids, sides*rounds)
	}
	does(t, "P2", c, stat(sides*rounds+1), api.Reply{Err: api.ErrJob})
}

// The last reservation that can be ends just at MaxTime.
func TestP2NoTimeWraps(t *testing.T) {
	const end = api.MaxTime - api.MaxJobs*api.MaxWall
	c := fresh(t, api.MaxNodes, api.MaxJobs, api.MaxWall, end)
	now := 0
	for end-now > most {
		does(t, "P9", c, tick(most), api.Reply{})
		now += most
	}
	does(t, "P9", c, tick(most), api.Reply{Err: api.ErrTime})
	does(t, "P9", c, tick(end-now+1), api.Reply{Err: api.ErrTime})
	does(t, "P9", c, tick(end-now), api.Reply{})
	does(t, "P9", c, tick(1), api.Reply{Err: api.ErrTime})
	does(t, "P9", c, tick(most), api.Reply{Err: api.ErrTime})
	does(t, "P7", c, submit(api.MaxNodes, api.MaxWall), starts(1, end))
	var rows []api.Row
	for id := 2; id <= api.MaxJobs; id++ {
		promise := end + (id-1)*api.MaxWall
		does(t, "P7", c, submit(api.MaxNodes, api.MaxWall), waits(id, promise))
		rows = append(rows, api.Row{ID: id, Promise: promise, Width: api.MaxNodes, Wall: api.MaxWall})
	}
	does(t, "P7", c, submit(1, 1), api.Reply{Err: api.ErrFull})
	does(t, "P12", c, queue, api.Reply{Rows: rows})
	does(t, "P11", c, stat(api.MaxJobs), api.Reply{A: api.Queued, B: api.MaxTime - api.MaxWall, C: api.MaxTime})
	does(t, "P12", c, info, api.Reply{A: end, C: api.MaxJobs})

	var events []api.Event
	for id := 3; id <= api.MaxJobs; id++ {
		events = append(events, moved(id, end+(id-1)*api.MaxWall, end+(id-2)*api.MaxWall))
	}
	does(t, "P8", c, cancel(2), tells(events...))
	does(t, "P7", c, submit(1, 1), waits(api.MaxJobs+1, api.MaxTime-api.MaxWall))
	events = nil
	for id := 3; id <= api.MaxJobs; id++ {
		events = append(events, moved(id, end+(id-2)*api.MaxWall, end+(id-3)*api.MaxWall))
	}
	events = append(events, moved(api.MaxJobs+1, api.MaxTime-api.MaxWall, api.MaxTime-2*api.MaxWall), started(3, end))
	does(t, "P8", c, done(1), tells(events...))
	does(t, "P11", c, stat(1), api.Reply{A: api.Finished, B: end, C: end})
}

// With two jobs of one moment promises go up to just below MaxTime, and a job moves up there.
func TestP2MovesUpToTheBoundOfTime(t *testing.T) {
	const end = api.MaxTime - 2
	c := fresh(t, 1, 2, 1, end)
	for now := 0; end-now > most; now += most {
		does(t, "P9", c, tick(most), api.Reply{})
	}
	does(t, "P9", c, tick(end%most), api.Reply{})
	does(t, "P7", c, submit(1, 1), starts(1, end))
	does(t, "P7", c, submit(1, 1), waits(2, end+1))
	does(t, "P11", c, stat(2), api.Reply{A: api.Queued, B: end + 1, C: api.MaxTime})
	does(t, "P8", c, done(1), tells(moved(2, end+1, end), started(2, end)))
	does(t, "P11", c, stat(2), api.Reply{A: api.Running, B: end, C: end + 1})
	does(t, "P7", c, submit(1, 1), waits(3, end+1))
	does(t, "P8", c, cancel(3), api.Reply{})
	does(t, "P11", c, stat(3), api.Reply{A: api.Cancelled, B: end, C: end})
}

// With one job of one moment the time itself goes up to just below MaxTime.
func TestP2TimeUpToItsBound(t *testing.T) {
	const end = api.MaxTime - 1
	c := fresh(t, 1, 1, 1, end)
	for now := 0; end-now > most; now += most {
		does(t, "P9", c, tick(most), api.Reply{})
	}
	does(t, "P9", c, tick(end%most), api.Reply{})
	does(t, "P7", c, submit(1, 1), starts(1, end))
	does(t, "P11", c, stat(1), api.Reply{A: api.Running, B: end, C: api.MaxTime})
	for _, by := range []int{1, most} {
		does(t, "P9", c, tick(by), api.Reply{Err: api.ErrTime})
	}
	does(t, "P12", c, info, api.Reply{A: end, C: 1})
}

// A tick over a time that nobody could count through ends all the same.
func TestP1GreatTicksEnd(t *testing.T) {
	c := fresh(t, 1, 30, api.MaxWall, most)
	var events []api.Event
	for id := 1; id <= 30; id++ {
		c.Do(submit(1, api.MaxWall))
		events = append(events, ended(id, id*api.MaxWall))
		if id < 30 {
			events = append(events, started(id+1, id*api.MaxWall))
		}
	}
	does(t, "P9", c, tick(most), api.Reply{Events: events})
	does(t, "P12", c, info, api.Reply{A: most, B: 1})
}
