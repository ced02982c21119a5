package lin

import (
	"slices"

	"sherpa/api"
)

// stackWays is the points at which an item is put on a Stack and taken again
// (a hop), or put and never taken, or the first item is taken, or a take finds
// none. A hop leaves all items as they were, so that no more is to be known of
// it than which calls are placed behind it.
func (s *search) stackWays(at point) []point {
	var l []point
	for _, placed := range s.hop(at.placed) {
		l = append(l, point{placed: placed, meaning: at.meaning, floor: at.floor})
	}
	for _, next := range s.steps(at) {
		switch {
		case s.puts&next.placed != s.puts&at.placed:
			l = append(l, point{placed: next.placed, meaning: s.none, floor: true})
		case !at.floor:
			l = append(l, next)
		}
	}
	return l
}

// hop is which calls can be placed behind one hop from others.
func (s *search) hop(placed group) []group {
	var l []group
	for id, c := range s.calls {
		if s.puts.has(id) && s.free(placed, id) {
			for _, g := range s.hops(placed | just(id)) {
				l = append(l, s.pops(g, c.Op.Key)...)
			}
		}
	}
	return apart(l)
}

// hops is which calls can be placed behind any hops from others.
func (s *search) hops(placed group) []group {
	if l, ok := s.hopped[placed]; ok {
		return l
	}
	l := []group{placed}
	for _, g := range s.hop(placed) {
		l = append(l, s.hops(g)...)
	}
	s.hopped[placed] = apart(l)
	return s.hopped[placed]
}

// pops is which calls are placed when a Stack's first item is taken behind
// others.
func (s *search) pops(placed group, key int) []group {
	var l []group
	for id, c := range s.calls {
		if s.takes.has(id) && s.free(placed, id) && agrees(c, api.Res{Ok: true, Val: key}) {
			l = append(l, placed|just(id))
		}
	}
	return l
}

// apart is groups without those that are there already: many ways lead to one.
func apart(l []group) []group {
	slices.Sort(l)
	return slices.Compact(l)
}
