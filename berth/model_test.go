package berth_test

import (
	"math/rand"
	"reflect"
	"testing"

	"berth/api"
	"berth/berth"
)

// fresh makes a cluster that must be allowed.
func fresh(t testing.TB, nodes, jobs, wall, end int) *berth.Cluster {
	t.Helper()
	config := api.Config{Nodes: nodes, Jobs: jobs, Wall: wall, End: end}
	c, err := berth.New(config)
	if c == nil || err != api.OK {
		t.Fatalf("P5: New(%+v) = %v, %d", config, c, err)
	}
	return c
}

// does holds an answer against the wanted one, to the last nil.
func does(t testing.TB, promise string, c *berth.Cluster, x api.Command, want api.Reply) {
	t.Helper()
	if got := c.Do(x); !reflect.DeepEqual(got, want) {
		t.Errorf("%s: Do(%+v) = %+v, want %+v", promise, x, got, want)
	}
}

func submit(width, wall int) api.Command { return api.Command{Kind: api.Submit, A: width, B: wall} }

func tick(by int) api.Command { return api.Command{Kind: api.Tick, A: by} }

func cancel(id int) api.Command { return api.Command{Kind: api.Cancel, A: id} }

func done(id int) api.Command { return api.Command{Kind: api.Done, A: id} }

func stat(id int) api.Command { return api.Command{Kind: api.Stat, A: id} }

var (
	queue = api.Command{Kind: api.Queue}
	info  = api.Command{Kind: api.Info}
)

func started(id, time int) api.Event { return api.Event{Kind: api.Started, ID: id, Time: time} }

func ended(id, time int) api.Event { return api.Event{Kind: api.Ended, ID: id, Time: time} }

func moved(id, from, to int) api.Event {
	return api.Event{Kind: api.Moved, ID: id, Time: from, To: to}
}

// tells is the answer that has nothing but events.
func tells(events ...api.Event) api.Reply { return api.Reply{Events: events} }

// waits is the answer to a job that doesn't start at once.
func waits(id, promise int) api.Reply { return api.Reply{A: id, B: promise} }

// starts is the answer to a job that does.
func starts(id, now int) api.Reply {
	return api.Reply{A: id, B: now, Events: []api.Event{started(id, now)}}
}

// model does what the document says word by word, moment by moment, and so only for small times.
type model struct {
	config api.Config
	now    int
	jobs   []modelJob
}

type modelJob struct {
	phase, width, wall, start, end int
}

func (j modelJob) isLive() bool { return j.phase == api.Queued || j.phase == api.Running }

func (m *model) do(x api.Command) api.Reply {
	if expectedLine(x) == "" {
		return api.Reply{Err: api.ErrArg}
	}
	switch x.Kind {
	case api.Submit:
		return m.submit(x.A, x.B)
	case api.Cancel, api.Done:
		return m.endEarly(x)
	case api.Tick:
		return m.tick(x.A)
	case api.Stat:
		if x.A < 1 || x.A > len(m.jobs) {
			return api.Reply{Err: api.ErrJob}
		}
		j := m.jobs[x.A-1]
		return api.Reply{A: j.phase, B: j.start, C: j.end}
	case api.Queue:
		return m.queue()
	case api.Info:
		return m.info()
	}
	return api.Reply{}
}

func (m *model) live() int {
	n := 0
	for _, j := range m.jobs {
		if j.isLive() {
			n++
		}
	}
	return n
}

func (m *model) submit(width, wall int) api.Reply {
	if width < 1 || width > m.config.Nodes {
		return api.Reply{Err: api.ErrWidth}
	}
	if wall < 1 || wall > m.config.Wall {
		return api.Reply{Err: api.ErrWall}
	}
	if m.live() >= m.config.Jobs {
		return api.Reply{Err: api.ErrFull}
	}
	promise := m.now
	for !m.room(width, wall, promise) {
		promise++
	}
	m.jobs = append(m.jobs, modelJob{phase: api.Queued, width: width, wall: wall, start: promise, end: promise + wall})
	return api.Reply{A: len(m.jobs), B: promise, Events: m.starts(nil)}
}

func (m *model) room(width, wall, at int) bool {
	for moment := at; moment < at+wall; moment++ {
		used := width
		for _, j := range m.jobs {
			if j.isLive() && j.start <= moment && moment < j.end {
				used += j.width
			}
		}
		if used > m.config.Nodes {
			return false
		}
	}
	return true
}

func (m *model) starts(events []api.Event) []api.Event {
	for i := range m.jobs {
		if j := &m.jobs[i]; j.phase == api.Queued && j.start == m.now {
			j.phase = api.Running
			events = append(events, started(i+1, m.now))
		}
	}
	return events
}

func (m *model) endEarly(x api.Command) api.Reply {
	if x.A < 1 || x.A > len(m.jobs) {
		return api.Reply{Err: api.ErrJob}
	}
	j := &m.jobs[x.A-1]
	if !j.isLive() || x.Kind == api.Done && j.phase != api.Running {
		return api.Reply{Err: api.ErrPhase}
	}
	if j.phase == api.Queued {
		j.start = m.now
	}
	j.phase, j.end = api.Finished, m.now
	if x.Kind == api.Cancel {
		j.phase = api.Cancelled
	}
	return api.Reply{Events: m.starts(m.moves())}
}

func (m *model) moves() []api.Event {
	var events []api.Event
	for again := true; again; {
		again = false
		for i := range m.jobs {
			j := &m.jobs[i]
			if j.phase != api.Queued {
				continue
			}
			from := j.start
			to := m.now
			j.phase = 0 // not in its own way
			for to < from && !m.room(j.width, j.wall, to) {
				to++
			}
			j.phase = api.Queued
			if to < from {
				j.start, j.end, again = to, to+j.wall, true
				events = append(events, moved(i+1, from, to))
			}
		}
	}
	return events
}

func (m *model) tick(by int) api.Reply {
	if by > m.config.End || m.now+by > m.config.End {
		return api.Reply{Err: api.ErrTime}
	}
	var events []api.Event
	for range by {
		m.now++
		for i := range m.jobs {
			if j := &m.jobs[i]; j.phase == api.Running && j.start+j.wall == m.now {
				j.phase = api.TimedOut
				events = append(events, ended(i+1, m.now))
			}
		}
		events = m.starts(events)
	}
	return api.Reply{Events: events}
}

func (m *model) queue() api.Reply {
	var rows []api.Row
	for i, j := range m.jobs {
		if j.phase == api.Queued {
			rows = append(rows, api.Row{ID: i + 1, Promise: j.start, Width: j.width, Wall: j.wall})
		}
	}
	return api.Reply{Rows: rows}
}

func (m *model) info() api.Reply {
	free := m.config.Nodes
	for _, j := range m.jobs {
		if j.phase == api.Running {
			free -= j.width
		}
	}
	return api.Reply{A: m.now, B: free, C: m.live()}
}

// draw is a command that fits a cluster more or less: most are good ones, some just beside the bounds.
func draw(r *rand.Rand, config api.Config, given int) api.Command {
	switch r.Intn(18) {
	case 0, 1, 2, 3, 4, 5:
		return submit(1+r.Intn(config.Nodes), 1+r.Intn(config.Wall))
	case 6:
		return submit(r.Intn(config.Nodes+3)-1, r.Intn(config.Wall+3)-1)
	case 7, 8:
		return tick(r.Intn(config.Wall + 2))
	case 9:
		return tick(r.Intn(config.End/4 + 2))
	case 10, 11, 12: // the youngest ones are live as a rule
		return api.Command{Kind: api.Cancel + r.Intn(2), A: max(1, given-r.Intn(12))}
	case 13:
		return api.Command{Kind: api.Cancel + r.Intn(2), A: r.Intn(given+3) - 1}
	case 14:
		return stat(r.Intn(given+3) - 1)
	case 15:
		return queue
	case 16:
		return info
	}
	return api.Command{Kind: r.Intn(12) - 2, A: r.Intn(3) - 1, B: r.Intn(3) - 1}
}

func TestDrawnCommandsAreDoneAsTheDocumentSays(t *testing.T) {
	r := rand.New(rand.NewSource(1))
	for range 300 {
		config := api.Config{Nodes: 1 + r.Intn(6), Jobs: 1 + r.Intn(api.MaxJobs), Wall: 1 + r.Intn(12), End: r.Intn(300)}
		m := model{config: config}
		c := fresh(t, config.Nodes, config.Jobs, config.Wall, config.End)
		for range 100 {
			x := draw(r, config, len(m.jobs))
			if got, want := c.Do(x), m.do(x); !reflect.DeepEqual(got, want) {
				t.Fatalf("P6: %+v at %d: Do(%+v) = %+v, want %+v", config, m.now, x, got, want)
			}
		}
	}
}

func FuzzDo(f *testing.F) {
	f.Add(uint8(4), uint8(5), []byte("\x01\x03\x0a\x01\x02\x05\x04\x09\x00\x05\x01\x00\x06\x00\x00\x07\x00\x00"))
	f.Add(uint8(2), uint8(30), []byte("\x01\x01\x05\x01\x02\x0a\x01\x01\x06\x01\x01\x05\x04\x20\x00"))
	f.Add(uint8(3), uint8(29), []byte("\x01\x01\x02\x01\x01\x06\x01\x03\x05\x01\x02\x01\x01\x01\x01\x01\x01\x01\x02\x02\x00\x04\x01\x00\x03\x01\x00\x06\x00\x00"))
	f.Fuzz(func(t *testing.T, nodes, jobs uint8, script []byte) {
		config := api.Config{Nodes: 1 + int(nodes)%8, Jobs: 1 + int(jobs)%api.MaxJobs, Wall: 20, End: 500}
		m := model{config: config}
		c := fresh(t, config.Nodes, config.Jobs, config.Wall, config.End)
		for ; len(script) >= 3; script = script[3:] {
			x := api.Command{Kind: int(script[0] % 9), A: int(script[1]), B: int(script[2])}
			does(t, "P6", c, x, m.do(x))
		}
	})
}
