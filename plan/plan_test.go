package plan

import (
	"math/rand"
	"slices"
	"testing"
)

// leastByMoments looks at every time, and there at every moment.
func leastByMoments(p Plan, width, wall, now int) int {
	for at := now; ; at++ {
		room := true
		for moment := at; moment < at+wall; moment++ {
			used := width
			for _, r := range p.Taken {
				if r.Start <= moment && moment < r.End {
					used += r.Width
				}
			}
			room = room && used <= p.Nodes
		}
		if room {
			return at
		}
	}
}

// Taken may overlap in any way here, as long as it holds no more than the nodes.
func TestEarliestIsTheLeastTimeWithRoom(t *testing.T) {
	r := rand.New(rand.NewSource(1))
	for range 3000 {
		p := Plan{Nodes: 1 + r.Intn(6)}
		now := r.Intn(5)
		for range r.Intn(12) {
			width, wall, from := 1+r.Intn(p.Nodes), 1+r.Intn(8), r.Intn(20)
			start := leastByMoments(p, width, wall, from)
			p.Taken = append(p.Taken, Reservation{Width: width, Start: start, End: start + wall})
		}
		width, wall := 1+r.Intn(p.Nodes), 1+r.Intn(15)
		before := slices.Clone(p.Taken)
		if got, want := p.Earliest(width, wall, now), leastByMoments(p, width, wall, now); got != want {
			t.Fatalf("%+v: %d nodes as long as %d from %d on: %d, want %d", p, width, wall, now, got, want)
		}
		if !slices.Equal(before, p.Taken) {
			t.Fatalf("%+v: was %+v", p, before)
		}
	}
}

func TestEarliestAtEdges(t *testing.T) {
	const far = 1 << 62
	for _, c := range []struct {
		taken            []Reservation
		width, wall, now int
		want             int
	}{
		{nil, 4, 1, 0, 0},
		{nil, 4, 1000000000, far, far},
		{[]Reservation{{1, 0, 10}}, 4, 1, 0, 10},
		{[]Reservation{{1, 0, 10}}, 4, 1, 10, 10},
		{[]Reservation{{1, 0, 10}}, 3, 100, 0, 0},
		{[]Reservation{{1, 10, 20}}, 4, 10, 0, 0},
		{[]Reservation{{1, 10, 20}}, 4, 11, 0, 20},
		{[]Reservation{{1, 10, 20}}, 4, 10, 1, 20},
		{[]Reservation{{4, 10, 20}, {4, 21, 30}}, 1, 1, 10, 20},
		{[]Reservation{{4, 10, 20}, {4, 21, 30}}, 1, 2, 10, 30},
		{[]Reservation{{4, 21, 30}, {4, 10, 20}}, 1, 1, 10, 20},
		{[]Reservation{{4, far - 10, far}}, 4, 10, far - 10, far},
	} {
		p := Plan{Nodes: 4, Taken: c.taken}
		if got := p.Earliest(c.width, c.wall, c.now); got != c.want {
			t.Errorf("%+v: %d nodes as long as %d from %d on: %d, want %d", p, c.width, c.wall, c.now, got, c.want)
		}
	}
}
