package due

import (
	"cmp"
	"math/rand"
	"slices"
	"testing"

	"berth/api"
)

// inOrder says the order once more: by time, ends first, by ids.
func inOrder(a, b api.Event) int {
	ends := map[int]int{api.Ended: 0, api.Started: 1}
	return cmp.Or(a.Time-b.Time, ends[a.Kind]-ends[b.Kind], a.ID-b.ID)
}

func takeAll(e *Events, until int) []api.Event {
	var taken []api.Event
	for {
		event, ok := e.Next(until)
		if !ok {
			return taken
		}
		taken = append(taken, event)
	}
}

func TestNextTakesInOrder(t *testing.T) {
	r := rand.New(rand.NewSource(1))
	for range 500 {
		var e Events
		var all []api.Event
		for id := range r.Intn(40) {
			event := api.Event{Kind: api.Started + r.Intn(2), ID: id, Time: r.Intn(6)}
			all = append(all, event)
		}
		r.Shuffle(len(all), func(i, j int) { all[i], all[j] = all[j], all[i] })
		for _, event := range all {
			e.Add(event)
		}
		slices.SortFunc(all, inOrder)
		until := r.Intn(7)
		cut := slices.IndexFunc(all, func(x api.Event) bool { return x.Time > until })
		if cut < 0 {
			cut = len(all)
		}
		if got := takeAll(&e, until); !slices.Equal(got, all[:cut]) {
			t.Fatalf("up to %d: %v, want %v", until, got, all[:cut])
		}
		if got := takeAll(&e, 10); !slices.Equal(got, all[cut:]) {
			t.Fatalf("the rest: %v, want %v", got, all[cut:])
		}
	}
}

func TestNextOfNothing(t *testing.T) {
	var e Events
	if event, ok := e.Next(1 << 62); ok || event != (api.Event{}) {
		t.Errorf("Next = %+v, %t", event, ok)
	}
	e.Add(api.Event{Kind: api.Started, ID: 1, Time: 5})
	if event, ok := e.Next(4); ok || event != (api.Event{}) {
		t.Errorf("Next(4) = %+v, %t", event, ok)
	}
	if event, ok := e.Next(5); !ok || event.ID != 1 {
		t.Errorf("Next(5) = %+v, %t", event, ok)
	}
	if event, ok := e.Next(5); ok || event != (api.Event{}) {
		t.Errorf("Next(5) again = %+v, %t", event, ok)
	}
}
