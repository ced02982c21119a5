package lin

import (
	"slices"
	"testing"

	"sherpa/api"
	"sherpa/hist"
	"sherpa/spec"
)

// dice is numbers that are mixed, the same ones each time.
type dice int

// next is a number from 0 to n - 1.
func (d *dice) next(n int) int {
	*d = *d * 75 % 65537
	return int(*d) / 16 % n
}

// operation is one of a shape, with one of some keys.
func (d *dice) operation(shape, keys int) api.Op {
	switch {
	case isSet(shape):
		return api.Op{Kind: api.Insert + d.next(3), Key: d.next(keys)}
	case d.next(2) == 0:
		return put(d.next(keys))
	}
	return take()
}

// bend is a result, or another one.
func (d *dice) bend(op api.Op, r api.Res, keys int) api.Res {
	switch {
	case d.next(24) == 0:
		return failed(api.ErrFull)
	case d.next(8) > 0:
		return r
	case op.Kind == api.Take && r.Ok && d.next(3) > 0:
		return took(d.next(keys))
	case op.Kind == api.Take && r.Ok:
		return no()
	}
	return api.Res{Ok: !r.Ok}
}

// mixed is a history of some threads' calls: each operation is done by a
// meaning while it is pending, so that but for bent results it is linear. The
// order in which they were done comes with it.
func (d *dice) mixed(shape, threads, calls, keys int, bent bool) (*hist.Hist, []int) {
	h := hist.New()
	m, _ := spec.New(shape)
	var id [api.MaxThreads]int
	var done [api.MaxThreads]bool
	var res [api.MaxThreads]api.Res
	var ops []api.Op
	var order []int
	for len(ops) < calls || d.next(12) > 0 {
		x := d.next(threads)
		switch {
		case !h.Pending(x) && len(ops) < calls:
			id[x], done[x] = len(ops), false
			ops = append(ops, d.operation(shape, keys))
			h.Begin(x, ops[id[x]])
		case !h.Pending(x):
		case !done[x]:
			op := ops[id[x]]
			res[x], _ = m.Do(op)
			done[x] = true
			order = append(order, id[x])
			if bent {
				res[x] = d.bend(op, res[x], keys)
			}
		default:
			h.End(x, res[x])
		}
	}
	return h, order
}

// wild is a history of some threads' calls that are told anything.
func (d *dice) wild(shape, threads, calls, keys int) *hist.Hist {
	h := hist.New()
	var ops []api.Op
	var last [api.MaxThreads]api.Op
	for len(ops) < calls || d.next(12) > 0 {
		x := d.next(threads)
		switch {
		case h.Pending(x):
			h.End(x, d.result(last[x], keys))
		case len(ops) < calls:
			last[x] = d.operation(shape, keys)
			ops = append(ops, last[x])
			h.Begin(x, last[x])
		}
	}
	return h
}

// result is anything that an operation can be told.
func (d *dice) result(op api.Op, keys int) api.Res {
	switch {
	case op.Kind == api.Put:
		return yes()
	case d.next(3) == 0:
		return no()
	case op.Kind == api.Take:
		return took(d.next(keys))
	}
	return yes()
}

// isLegal tells whether an order is, as the chapter says it, word by word.
func isLegal(shape int, calls []hist.Call, order []int) bool {
	m, _ := spec.New(shape)
	for i, id := range order {
		if slices.Contains(order[:i], id) {
			return false
		}
		for _, earlier := range order[:i] {
			if calls[id].Before(calls[earlier].Span) {
				return false
			}
		}
		c := calls[id]
		r, e := m.Do(c.Op)
		if e != api.OK || !c.Pending() && (c.Res != r || c.Res.Code != api.OK) {
			return false
		}
	}
	for id, c := range calls {
		if !c.Pending() && c.Res.Code == api.OK && !slices.Contains(order, id) {
			return false
		}
	}
	return true
}

// firstLegal is the first legal one of all orders, the least one first. (No
// legal one goes on from where calls were told something else, or came too
// late.)
func firstLegal(shape int, calls []hist.Call, order ...int) ([]int, bool) {
	if isLegal(shape, calls, order) {
		return order, true
	}
	for id := range calls {
		next := append(slices.Clone(order), id)
		var some []hist.Call // the calls with none behind these that must stand
		for i, c := range calls {
			if !slices.Contains(next, i) {
				c.Ended = -1
			}
			some = append(some, c)
		}
		if !isLegal(shape, some, next) {
			continue
		}
		if l, ok := firstLegal(shape, calls, next...); ok {
			return l, true
		}
	}
	return nil, false
}

// TestMixed holds mixed histories against all their orders.
func TestMixed(t *testing.T) {
	d := dice(1)
	for _, shape := range shapes() {
		var linear, not int
		for i := range 4000 {
			h, _ := d.mixed(shape, 1+d.next(5), d.next(7), 1+d.next(3), i%4 > 0)
			if i%2 == 0 {
				h = d.wild(shape, 2+d.next(5), d.next(7), 1+d.next(3))
			}
			order, ok := firstLegal(shape, h.Calls())
			if ok {
				wantLeast(t, shape, h, order...)
				linear++
			} else {
				wantNone(t, shape, h)
				not++
			}
		}
		if linear < 500 || not < 500 {
			t.Errorf("shape %d: %d are linear, %d not", shape, linear, not)
		}
	}
}

// TestMixedOrders holds orders of mixed histories against what the chapter
// says, word by word.
func TestMixedOrders(t *testing.T) {
	d := dice(2)
	for _, shape := range shapes() {
		var right, wrong int
		for range 150 {
			h, _ := d.mixed(shape, 1+d.next(4), d.next(5), 1+d.next(2), d.next(2) == 0)
			calls := h.Calls()
			eachOrder(len(calls), len(calls), func(order []int) {
				none := slices.ContainsFunc(order, func(id int) bool { return id < 0 || id >= len(calls) })
				is := !none && isLegal(shape, calls, order)
				if is {
					right++
				} else {
					wrong++
				}
				if Legal(shape, h, order...) != is {
					t.Errorf("shape %d, %v: %v: legal: %v", shape, calls, order, !is)
				}
			})
		}
		if right < 100 || wrong < 100 {
			t.Errorf("shape %d: %d orders are right, %d wrong", shape, right, wrong)
		}
	}
}

// TestMixedLongOnes asks for an order of histories with as many calls as may
// be, of which one order is known.
func TestMixedLongOnes(t *testing.T) {
	d := dice(3)
	for _, shape := range shapes() {
		for range 150 {
			h, known := d.mixed(shape, 1+d.next(8), api.MaxCalls, 1+d.next(9), false)
			if !isLegal(shape, h.Calls(), known) {
				t.Fatal("the known order is wrong")
			}
			order, ok, e := Order(shape, h)
			if !ok || e != api.OK || !isLegal(shape, h.Calls(), order) || slices.Compare(order, known) > 0 {
				t.Errorf("shape %d, %v: %v, %v, %v; %v is legal", shape, h.Events(), order, ok, e, known)
			}
			wantLegal(t, shape, h, order, behind(shape, h, order))
		}
	}
}

// behind is the items behind operations.
func behind(shape int, h *hist.Hist, order []int) []int {
	calls := h.Calls()
	var ops []api.Op
	for _, id := range order {
		ops = append(ops, calls[id].Op)
	}
	_, m, _ := spec.Play(shape, ops...)
	return m.Items()
}

// round lets each thread do an operation, all at one time.
func round(ops []api.Op, res []api.Res) []hist.Event {
	var l []hist.Event
	for x, op := range ops {
		l = append(l, begins(x, op))
	}
	for x, r := range res {
		l = append(l, ends(x, r))
	}
	return l
}

// puts is a round of eight puts, with keys from one on.
func puts(key int) []hist.Event {
	ops, res := make([]api.Op, 8), make([]api.Res, 8)
	for x := range ops {
		ops[x], res[x] = put(key+x), yes()
	}
	return round(ops, res)
}

// taken is a round of eight takes that were told eight keys, from the last one
// on.
func taken(key int) []hist.Event {
	ops, res := make([]api.Op, 8), make([]api.Res, 8)
	for x := range ops {
		ops[x], res[x] = take(), took(key+7-x)
	}
	return round(ops, res)
}

// TestTooManyToTry has histories with more orders than could ever be tried: 16
// puts have over a thousand million.
func TestTooManyToTry(t *testing.T) {
	h := made(t, rows(puts(0), puts(8), taken(0))...)
	wantLeast(t, api.Queue, h, append(upTo(16), 23, 22, 21, 20, 19, 18, 17, 16)...)
	wantNone(t, api.Stack, h)
	h = made(t, rows(puts(0), puts(8), taken(8))...)
	wantNone(t, api.Queue, h)
	wantLeast(t, api.Stack, h, upTo(24)...)
	h = made(t, rows(puts(0), taken(0), does(0, put(50), yes()), does(0, put(51), yes()), does(0, take(), took(51)))...)
	wantNone(t, api.Queue, h)
	wantLeast(t, api.Stack, h, upTo(19)...)
	h = made(t, rows(puts(0), taken(0), does(0, put(50), yes()), does(0, put(51), yes()), does(0, take(), took(50)))...)
	wantLeast(t, api.Queue, h, append(append(upTo(8), 15, 14, 13, 12, 11, 10, 9, 8), 16, 17, 18)...)
	wantNone(t, api.Stack, h)
	h = made(t, rows(puts(0), puts(8), does(0, put(60), no()))...)
	wantNone(t, api.Queue, h)
	wantNone(t, api.Stack, h)
}

// rolling is 24 calls, each of which begins as the eighth one ahead of it
// ends.
func rolling(ops []api.Op, res []api.Res) *hist.Hist {
	h := hist.New()
	for i, op := range ops {
		if i >= 8 {
			h.End(i%8, res[i-8])
		}
		h.Begin(i%8, op)
	}
	for i := len(ops) - 8; i < len(ops); i++ {
		h.End(i%8, res[i])
	}
	return h
}

// TestRolling has calls that are never all ended, the last of which is told
// what can't be.
func TestRolling(t *testing.T) {
	for i, keys := range numbers(1, 2, 12) {
		ops, res := make([]api.Op, 24), make([]api.Res, 24)
		for x := range 12 {
			ops[x], res[x] = put(x%keys), yes()
			ops[12+x], res[12+x] = take(), took(x%keys)
		}
		h := rolling(ops, res)
		wantLeast(t, api.Queue, h, upTo(24)...)
		if !Linear(api.Stack, h) {
			t.Errorf("%d keys: not linear", keys)
		}
		res[23] = []api.Res{no(), took(keys), {Val: 1}}[i]
		wantNone(t, api.Queue, rolling(ops, res))
		wantNone(t, api.Stack, rolling(ops, res))
	}
	for _, shape := range []int{api.List, api.Hash} {
		ops, res := make([]api.Op, 24), make([]api.Res, 24)
		for i := range 24 {
			ops[i], res[i] = api.Op{Kind: api.Insert + i%2, Key: i / 2 % 3}, yes()
		}
		wantLeast(t, shape, rolling(ops, res), upTo(24)...)
		ops[23] = remove(3)
		wantNone(t, shape, rolling(ops, res))
	}
}
