package due

import (
	"cmp"
	"math/rand"
	"slices"
	"testing"

	"berth/api"
)

// inOrder says the order once more: by time, ends first, by ids.
func inOrder(a, b api.Event) int {
	ends := map[int]int{api.Ended: 0, api.Started: 1}
	return cmp.Or(a.Time-b.Time, ends[a.Kind]-ends[b.Kind], a.ID-b.ID)
}

func takeAll(e *Events, until int) []api.Event {
	var taken []api.Event
	for {
		event, ok := e.Next(until)
		if !ok {
			return taken
		}
		taken = append(taken, event)
	}
}

func TestNextTakesInOrder(t *testing.T) {
	r := rand.New(rand.NewSource(1))
	for range 500 {
		var e Events
		var all []api.Event
		for id := range r.Intn(40) {
			event := api.Event{Kind: api.Started + r.Intn(2), ID: id, Time: r.Intn(6)}
			all = append(all, event)
		}
		r.Shuffle(len(all), func(i, j int) { all[i], all[j] = all[j], all[i] })
		for _, event := range all {
			e.Add(event)
		}
		slices.SortFunc(all, inOrder)
		until := r.Intn(7)
		cut := slices.IndexFunc(all, func(x api.Event) bool { return x.Time > until })
		if cut < 0 {
			cut = len(all)
		}
		if got := takeAll(&e, until); !slices.Equal(got, all[:cut]) {
			t.Fatalf("up to %d: %v, want %v", until, got, all[:cut])
		}
		if got := takeAll(&e, 10); !slices.Equal(got, all[cut:]) {
			t.Fatalf("the rest: %v, want %v", got, all[cut:])
		}
	}
}

func TestNextOfNothing(t *testing.T) {
	var e Events
	if event, ok := e.Next(1 << 62); ok || event != (api.Event{}) {
		t.Errorf("Next = %+v, %t", event, ok)
	}
	e.Add(api.Event{Kind: api.Started, ID: 1, Time: 5})
	if event, ok := e.Next(4); ok || event != (api.Event{}) {
		t.Errorf("Next(4) = %+v, %t", event, ok)
	}
	if event, ok := e.Next(5); !ok || event.ID != 1 {
		t.Errorf("Next(5) = %+v, %t", event, ok)
	}
	if event, ok := e.Next(5); ok || event != (api.Event{}) {
		t.Errorf("Next(5) again = %+v, %t", event, ok)
	}
}

// What is left stands in order still, wherever in the heap the removed ones stood.
func TestRemoveTakesOutAJobsEvent(t *testing.T) {
	r := rand.New(rand.NewSource(2))
	for range 500 {
		var e Events
		var left []api.Event
		for id := range 40 {
			event := api.Event{Kind: api.Started + r.Intn(2), ID: id, Time: r.Intn(20)}
			left = append(left, event)
		}
		r.Shuffle(len(left), func(i, j int) { left[i], left[j] = left[j], left[i] })
		for _, event := range left {
			e.Add(event)
		}
		for range r.Intn(41) {
			e.Remove(left[0].ID)
			left = left[1:]
		}
		slices.SortFunc(left, inOrder)
		if got := takeAll(&e, 20); !slices.Equal(got, left) {
			t.Fatalf("%v, want %v", got, left)
		}
	}
}

func TestRemoveOfNothing(t *testing.T) {
	var e Events
	e.Remove(1)
	event := api.Event{Kind: api.Ended, ID: 2, Time: 5}
	e.Add(event)
	e.Remove(1)
	e.Remove(5)
	if got := takeAll(&e, 10); !slices.Equal(got, []api.Event{event}) {
		t.Errorf("%v", got)
	}
}
