package cluster

import (
	"slices"

	"berth/api"
)

// Cancel drops a live job (P8).
func (c *Cluster) Cancel(id int) (api.Reply, error) {
	if err := c.checkPhase(id, api.Queued, api.Running); err != nil {
		return api.Reply{}, &CallError{Call: "cancel", Err: err}
	}
	return api.Reply{Events: c.endEarly(id, api.Cancelled)}, nil
}

// Done ends a running job ahead of its time (P8).
func (c *Cluster) Done(id int) (api.Reply, error) {
	if err := c.checkPhase(id, api.Running); err != nil {
		return api.Reply{}, &CallError{Call: "done", Err: err}
	}
	return api.Reply{Events: c.endEarly(id, api.Finished)}, nil
}

func (c *Cluster) checkPhase(id int, allowed ...int) error {
	r, err := c.find(id)
	if err != nil {
		return err
	}
	if !slices.Contains(allowed, r.phase) {
		return &ValueError{Name: "job", Value: id, Err: ErrPhase}
	}
	return nil
}

// endEarly ends a live job now, and tells what that brings about.
func (c *Cluster) endEarly(id, phase int) []api.Event {
	c.endNow(id, phase)
	return append(c.moveUp(), c.happen(c.now)...)
}

func (c *Cluster) endNow(id, phase int) {
	r := c.recordOf(id)
	if r.phase == api.Queued {
		r.start = c.now
	}
	r.phase, r.end = phase, c.now
	c.leave(id)
	c.due.Remove(id)
}

// moveUp goes through the queued jobs until none of them moves any more: one
// that moves may make room for others, those with lower ids too. It ends,
// because promises only fall, and never below now.
func (c *Cluster) moveUp() []api.Event {
	var events []api.Event
	for {
		moved := c.moveUpOnce()
		if moved == nil {
			return events
		}
		events = append(events, moved...)
	}
}

func (c *Cluster) moveUpOnce() []api.Event {
	var events []api.Event
	for _, s := range c.live {
		r := c.recordOf(s.id)
		if r.phase != api.Queued {
			continue
		}
		from := r.start
		to := c.planWithout(s.id).Earliest(s.width, r.end-from, c.now)
		if to < from {
			c.promise(s.id, to)
			events = append(events, api.Event{Kind: api.Moved, ID: s.id, Time: from, To: to})
		}
	}
	return events
}

// promise gives a queued job another start: what was due of it is not any
// more.
func (c *Cluster) promise(id, start int) {
	r := c.recordOf(id)
	wall := r.end - r.start
	r.start, r.end = start, start+wall
	c.due.Remove(id)
	c.due.Add(api.Event{Kind: api.Started, ID: id, Time: start})
}
