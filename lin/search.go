package lin

import (
	"sherpa/api"
	"sherpa/hist"
	"sherpa/spec"
	"sherpa/task"
)

// group is some calls: a bit each, by their numbers.
type group uint32

// just is the group of one call.
func just(id int) group { return 1 << id }

// has tells whether a call is one of them.
func (g group) has(id int) bool { return g>>id&1 == 1 }

// point is how far an order has got: which calls are placed in it, and the
// meaning behind them. On a floor stands an item of a Stack that is never
// taken: neither it nor what is below it counts any more, so that the meaning
// has just what is above it.
type point struct {
	placed  group
	meaning *spec.Spec
	floor   bool
}

// mark is what tells points apart.
type mark struct {
	placed group
	items  string
	floor  bool
}

// mark is the point's own. Items are keys, and so each is a rune.
func (at point) mark() mark {
	var items []rune
	for _, key := range at.meaning.Items() {
		items = append(items, rune(key))
	}
	return mark{placed: at.placed, items: string(items), floor: at.floor}
}

// search looks for orders of calls.
type search struct {
	none   *spec.Spec // the meaning at first
	calls  []hist.Call
	may    group             // those that may stand in a legal order
	must   group             // those that stand in each
	puts   group             // those of may that put, and were told that they did
	takes  group             // those of may that take
	before []group           // for each call, those of must that are before it
	dead   map[mark]struct{} // the points from which nothing leads to an end
	hopped map[group][]group // what hops has told
}

// newSearch looks for orders of calls in which a meaning, without items at
// first, tells what they were told.
func newSearch(none *spec.Spec, calls []hist.Call) *search {
	s := &search{
		none:   none,
		calls:  calls,
		before: make([]group, len(calls)),
		dead:   map[mark]struct{}{},
		hopped: map[group][]group{},
	}
	for _, c := range calls {
		s.enter(c)
	}
	for id := range calls {
		s.before[id] = s.ahead(id)
	}
	return s
}

// enter puts a call into the groups that it is one of.
func (s *search) enter(c hist.Call) {
	if !c.Pending() {
		if c.Res.Code != api.OK {
			return
		}
		s.must |= just(c.Id)
	}
	if !task.Right(s.none.Shape, c.Op) {
		return
	}
	s.may |= just(c.Id)
	switch {
	case c.Op.Kind == api.Take:
		s.takes |= just(c.Id)
	case c.Op.Kind == api.Put && agrees(c, api.Res{Ok: true}):
		s.puts |= just(c.Id)
	}
}

// ahead is those of must that are before a call.
func (s *search) ahead(id int) group {
	var g group
	for _, c := range s.calls {
		if s.must.has(c.Id) && c.Before(s.calls[id].Span) {
			g |= just(c.Id)
		}
	}
	return g
}

// least goes on with an order, from call to call by the least one that leaves
// hope, as far as it must.
func (s *search) least(at point, order ...int) ([]int, bool) {
	if s.must&^at.placed == 0 {
		return order, true
	}
	for id := range s.calls {
		if next, ok := s.step(at, id); ok && s.hope(next) {
			return s.least(next, append(order[:len(order):len(order)], id)...)
		}
	}
	return nil, false
}

// step goes on with a call that is free, if the meaning tells what it was told.
func (s *search) step(at point, id int) (point, bool) {
	if !s.free(at.placed, id) {
		return point{}, false
	}
	return s.do(at, id)
}

// free tells whether a call may come next: none that is still to come is
// before it.
func (s *search) free(placed group, id int) bool {
	return (s.may &^ placed).has(id) && s.before[id]&^placed == 0
}

// do goes on with a call, if the meaning tells what it was told.
func (s *search) do(at point, id int) (point, bool) {
	m := at.meaning.Copy()
	r, e := m.Do(s.calls[id].Op)
	if e != api.OK || !agrees(s.calls[id], r) {
		return point{}, false
	}
	return point{placed: at.placed | just(id), meaning: m, floor: at.floor}, true
}

// hope tells whether a legal order goes on from a point. Puts that nothing
// else comes behind can always be placed, in the order in which they began.
func (s *search) hope(at point) bool {
	if s.must&^at.placed&^s.puts == 0 {
		return true
	}
	here := at.mark()
	if _, ok := s.dead[here]; ok {
		return false
	}
	for _, next := range s.ways(at) {
		if s.hope(next) {
			return true
		}
	}
	s.dead[here] = struct{}{}
	return false
}

// ways is the points where hope is looked for from one. What a set has hangs
// on which calls are placed, and hardly on their order, so that its points are
// few even call by call. A Queue or a Stack may have its items in each order
// in which they could be put, which are far too many to try: of these, points
// further on are asked, in which the items that are put meanwhile are gone.
func (s *search) ways(at point) []point {
	switch s.none.Shape {
	case api.Queue:
		return s.queueWays(at)
	case api.Stack:
		return s.stackWays(at)
	}
	return s.steps(at)
}

// steps is the points that are one call further.
func (s *search) steps(at point) []point {
	var l []point
	for id := range s.calls {
		if next, ok := s.step(at, id); ok {
			l = append(l, next)
		}
	}
	return l
}
