package lin

// queueWays is the points at which a Queue's item is put that is taken next, or
// is taken, or a take finds none.
//
// All puts, as they are placed, are one row, and all takes that find an item
// are another one. The rows can be laid into each other, if each of them is in
// time for itself, and no take that is before a put takes the item of that put
// or a later one. So a put can wait till its item is taken, and no more is to
// be known of the rows than which calls are placed.
func (s *search) queueWays(at point) []point {
	if at.meaning.Len() > 0 {
		return s.taken(at)
	}
	var l []point
	for _, next := range s.steps(at) {
		// A take that finds none parts both rows.
		if next.meaning.Len() > 0 || s.closed(next.placed) {
			l = append(l, next)
		}
	}
	return l
}

// taken is the points at which the first item of a Queue is taken, by a take
// that is in time among the takes.
func (s *search) taken(at point) []point {
	var l []point
	for id := range s.calls {
		if !(s.takes &^ at.placed).has(id) || s.before[id]&s.takes&^at.placed != 0 {
			continue
		}
		if next, ok := s.do(at, id); ok {
			l = append(l, next)
		}
	}
	return l
}

// closed tells whether no call that is still to come is before one of these.
func (s *search) closed(placed group) bool {
	for id := range s.calls {
		if placed.has(id) && s.before[id]&^placed != 0 {
			return false
		}
	}
	return true
}
