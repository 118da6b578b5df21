// Package cluster: jobs, their reservations, and the time that goes on.
// A Cluster has no lock: its calls must come one after the other.
package cluster

import (
	"slices"

	"berth/api"
	"berth/due"
	"berth/plan"
)

// Cluster is what is kept from call to call.
type Cluster struct {
	config  api.Config
	now     int
	records []record // of the job with the id i+1 at i
	live    []seat   // by rising ids
	due     due.Events
}

// record is what Stat tells of a job; start and end are its reservation's
// as long as it is live.
type record struct {
	phase, start, end int
}

// seat is what needs to be known of a job only as long as it is live.
type seat struct {
	id, width int
}

// noJob is an id that no job ever has.
const noJob = 0

// New makes a cluster (P5).
func New(c api.Config) (*Cluster, error) {
	if err := checkConfig(c); err != nil {
		return nil, &CallError{Call: "new", Err: err}
	}
	return &Cluster{config: c}, nil
}

// Submit takes a job (P7).
func (c *Cluster) Submit(width, wall int) (api.Reply, error) {
	if err := c.checkJob(width, wall); err != nil {
		return api.Reply{}, &CallError{Call: "submit", Err: err}
	}
	promise := c.planWithout(noJob).Earliest(width, wall, c.now)
	id := c.add(width, promise, promise+wall)
	return api.Reply{A: id, B: promise, Events: c.happen(c.now)}, nil
}

// Tick lets the time go on (P9).
func (c *Cluster) Tick(by int) (api.Reply, error) {
	if by > c.config.End-c.now {
		err := &ValueError{Name: "by", Value: by, Err: ErrTime}
		return api.Reply{}, &CallError{Call: "tick", Err: err}
	}
	c.now += by
	return api.Reply{Events: c.happen(c.now)}, nil
}

// Stat tells of a job (P11).
func (c *Cluster) Stat(id int) (api.Reply, error) {
	r, err := c.find(id)
	if err != nil {
		return api.Reply{}, &CallError{Call: "stat", Err: err}
	}
	return api.Reply{A: r.phase, B: r.start, C: r.end}, nil
}

// Queue tells of the queued jobs (P12).
func (c *Cluster) Queue() api.Reply {
	var rows []api.Row
	for _, s := range c.live {
		if r := c.recordOf(s.id); r.phase == api.Queued {
			rows = append(rows, api.Row{ID: s.id, Promise: r.start, Width: s.width, Wall: r.end - r.start})
		}
	}
	return api.Reply{Rows: rows}
}

// Info tells of the whole (P12).
func (c *Cluster) Info() api.Reply {
	free := c.config.Nodes
	for _, s := range c.live {
		if c.recordOf(s.id).phase == api.Running {
			free -= s.width
		}
	}
	return api.Reply{A: c.now, B: free, C: len(c.live)}
}

// checkJob asks in the order in which the document names the errors.
func (c *Cluster) checkJob(width, wall int) error {
	switch {
	case width < 1 || width > c.config.Nodes:
		return &ValueError{Name: "width", Value: width, Err: ErrWidth}
	case wall < 1 || wall > c.config.Wall:
		return &ValueError{Name: "wall", Value: wall, Err: ErrWall}
	case len(c.live) >= c.config.Jobs:
		return &ValueError{Name: "live jobs", Value: len(c.live), Err: ErrFull}
	}
	return nil
}

// add queues a job, even one that starts at once: happen does the rest.
func (c *Cluster) add(width, start, end int) int {
	c.records = append(c.records, record{phase: api.Queued, start: start, end: end})
	id := len(c.records)
	c.live = append(c.live, seat{id: id, width: width})
	c.due.Add(api.Event{Kind: api.Started, ID: id, Time: start})
	return id
}

// happen lets all happen that is due up to a time, and tells it in order.
func (c *Cluster) happen(until int) []api.Event {
	var events []api.Event
	for {
		event, ok := c.due.Next(until)
		if !ok {
			return events
		}
		if event.Kind == api.Started {
			c.start(event.ID)
		} else {
			c.timeOut(event.ID)
		}
		events = append(events, event)
	}
}

// start makes a job run (P10), and so its end is what is due of it next.
func (c *Cluster) start(id int) {
	r := c.recordOf(id)
	r.phase = api.Running
	c.due.Add(api.Event{Kind: api.Ended, ID: id, Time: r.end})
}

func (c *Cluster) timeOut(id int) {
	c.recordOf(id).phase = api.TimedOut
	c.leave(id)
}

// leave takes a job from among the live ones, and so its reservation away.
func (c *Cluster) leave(id int) {
	c.live = slices.DeleteFunc(c.live, func(s seat) bool { return s.id == id })
}

func (c *Cluster) find(id int) (*record, error) {
	if id < 1 || id > len(c.records) {
		return nil, &JobError{ID: id}
	}
	return c.recordOf(id), nil
}

// recordOf is for ids that are known to be jobs'.
func (c *Cluster) recordOf(id int) *record { return &c.records[id-1] }

// planWithout is what the live jobs but one have reserved: a job is never in
// its own way.
func (c *Cluster) planWithout(id int) plan.Plan {
	p := plan.Plan{Nodes: c.config.Nodes}
	for _, s := range c.live {
		if s.id == id {
			continue
		}
		r := c.recordOf(s.id)
		p.Taken = append(p.Taken, plan.Reservation{Width: s.width, Start: r.start, End: r.end})
	}
	return p
}
