// Package due: what will happen next, in a heap by its time.
package due

import (
	"container/heap"
	"slices"

	"berth/api"
)

// Events are the events to come: Started and Ended ones, at most one a job.
type Events struct {
	heap byTime
}

// Add puts an event among those to come.
func (e *Events) Add(event api.Event) { heap.Push(&e.heap, event) }

// Next takes out the first event that is due up to a time, if there is one.
// At one moment ends come ahead of starts, and each of them by rising ids.
func (e *Events) Next(until int) (api.Event, bool) {
	if len(e.heap) == 0 || e.heap[0].Time > until {
		return api.Event{}, false
	}
	event := e.heap[0]
	heap.Pop(&e.heap)
	return event, true
}

// Remove takes out the event of a job, if there is one.
func (e *Events) Remove(id int) {
	i := slices.IndexFunc(e.heap, func(event api.Event) bool { return event.ID == id })
	if i >= 0 {
		heap.Remove(&e.heap, i)
	}
}

type byTime []api.Event

func (h byTime) Len() int { return len(h) }

func (h byTime) Swap(i, j int) { h[i], h[j] = h[j], h[i] }

func (h byTime) Less(i, j int) bool {
	a, b := h[i], h[j]
	if a.Time != b.Time {
		return a.Time < b.Time
	}
	if a.Kind != b.Kind {
		return a.Kind == api.Ended
	}
	return a.ID < b.ID
}

func (h *byTime) Push(x any) { *h = append(*h, x.(api.Event)) }

func (h *byTime) Pop() any {
	last := len(*h) - 1
	event := (*h)[last]
	*h = (*h)[:last]
	return event
}
