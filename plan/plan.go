// Package plan: reservations of nodes, and when there is room for one more.
package plan

import "slices"

// Reservation is so many nodes from Start on until End, without that moment.
type Reservation struct {
	Width, Start, End int
}

// Plan is a count of nodes, and what of them is taken.
type Plan struct {
	Nodes int
	Taken []Reservation
}

// Earliest is the least time from now on at which there is room for width
// nodes as long as wall. The width is at most the plan's nodes.
func (p Plan) Earliest(width, wall, now int) int {
	times := p.timesToTry(now)
	last := len(times) - 1
	for _, t := range times[:last] {
		if p.hasRoom(Reservation{Width: width, Start: t, End: t + wall}) {
			return t
		}
	}
	// Behind every reservation there is room for all that the nodes can hold.
	return times[last]
}

// timesToTry are the times at which room can begin: now, or where a
// reservation ends, because nothing else gives nodes back.
func (p Plan) timesToTry(now int) []int {
	times := []int{now}
	for _, r := range p.Taken {
		if r.End > now {
			times = append(times, r.End)
		}
	}
	slices.Sort(times)
	return times
}

func (p Plan) hasRoom(wanted Reservation) bool {
	if !p.fits(wanted.Width, wanted.Start) {
		return false
	}
	// Between starts the use only falls, so no other moments need a look.
	for _, r := range p.Taken {
		inside := wanted.Start < r.Start && r.Start < wanted.End
		if inside && !p.fits(wanted.Width, r.Start) {
			return false
		}
	}
	return true
}

func (p Plan) fits(width, moment int) bool {
	for _, r := range p.Taken {
		if r.Start <= moment && moment < r.End {
			width += r.Width
		}
	}
	return width <= p.Nodes
}
