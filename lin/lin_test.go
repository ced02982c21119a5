package lin

import (
	"math"
	"slices"
	"testing"

	"sherpa/api"
	"sherpa/hist"
)

func shapes() []int  { return []int{api.List, api.Hash, api.Queue, api.Stack} }
func noShape() []int { return []int{math.MinInt, -4, -1, 0, 5, 6, 7, 8, 1 << 32, math.MaxInt} }

func isSet(shape int) bool { return shape == api.List || shape == api.Hash }

func insert(key int) api.Op { return api.Op{Kind: api.Insert, Key: key} }
func remove(key int) api.Op { return api.Op{Kind: api.Delete, Key: key} }
func has(key int) api.Op    { return api.Op{Kind: api.Has, Key: key} }
func put(key int) api.Op    { return api.Op{Kind: api.Put, Key: key} }
func take() api.Op          { return api.Op{Kind: api.Take} }

func yes() api.Res               { return api.Res{Ok: true} }
func no() api.Res                { return api.Res{} }
func took(val int) api.Res       { return api.Res{Ok: true, Val: val} }
func failed(e api.Errno) api.Res { return api.Res{Code: e} }

func begins(thread int, op api.Op) hist.Event { return hist.Event{Thread: thread, Op: op} }

func ends(thread int, res api.Res) hist.Event {
	return hist.Event{Thread: thread, Ends: true, Res: res}
}

// does is an operation that ends with its next event.
func does(thread int, op api.Op, res api.Res) []hist.Event {
	return events(begins(thread, op), ends(thread, res))
}

func events(l ...hist.Event) []hist.Event { return l }
func rows(l ...[]hist.Event) []hist.Event { return slices.Concat(l...) }
func numbers(l ...int) []int              { return l }

// made is a history of events, all of them right.
func made(t *testing.T, l ...hist.Event) *hist.Hist {
	t.Helper()
	h, e := hist.Of(l...)
	if e != api.OK {
		t.Fatalf("%v: %v", l, e)
	}
	return h
}

// legal is an order, and the items behind it.
type legal struct{ order, items []int }

// wantLegal asks for a legal order with just these items behind it.
func wantLegal(t *testing.T, shape int, h *hist.Hist, order, items []int) {
	t.Helper()
	if !Legal(shape, h, order...) {
		t.Errorf("shape %d, %v: %v isn't legal", shape, h.Events(), order)
	}
	if l, ok := Behind(shape, h, order...); !ok || !slices.Equal(l, items) {
		t.Errorf("shape %d, %v: behind %v: %v, %v; want %v", shape, h.Events(), order, l, ok, items)
	}
}

// wantIllegal asks for an order that isn't legal.
func wantIllegal(t *testing.T, shape int, h *hist.Hist, order ...int) {
	t.Helper()
	if Legal(shape, h, order...) {
		t.Errorf("shape %d: %v is legal", shape, order)
	}
	if l, ok := Behind(shape, h, order...); ok || len(l) > 0 {
		t.Errorf("shape %d: behind %v: %v, %v", shape, order, l, ok)
	}
}

// wantLeast asks for a history whose least legal order is this one.
func wantLeast(t *testing.T, shape int, h *hist.Hist, order ...int) {
	t.Helper()
	if l, ok, e := Order(shape, h); e != api.OK || !ok || !slices.Equal(l, order) {
		t.Errorf("shape %d, %v: Order: %v, %v, %v; want %v", shape, h.Events(), l, ok, e, order)
	}
	if !Linear(shape, h) {
		t.Errorf("shape %d, %v isn't linear", shape, h.Events())
	}
	if !Legal(shape, h, order...) {
		t.Errorf("shape %d, %v: the least order, %v, isn't legal", shape, h.Events(), order)
	}
}

// wantNone asks for a history without a legal order.
func wantNone(t *testing.T, shape int, h *hist.Hist) {
	t.Helper()
	wantError(t, api.OK, shape, h)
}

// wantError asks for an error that Order tells, and for no order.
func wantError(t *testing.T, e api.Errno, shape int, h *hist.Hist) {
	t.Helper()
	if l, ok, got := Order(shape, h); got != e || ok || len(l) > 0 {
		t.Errorf("shape %d: Order: %v, %v, %v; want %v", shape, l, ok, got, e)
	}
	if Linear(shape, h) {
		t.Errorf("shape %d: linear", shape)
	}
}

// eachOrder tells all rows of so many numbers at most, from -1 to one more
// than there are calls, the least one first.
func eachOrder(calls, most int, tell func(order []int)) {
	var from func(order []int)
	from = func(order []int) {
		tell(order)
		if len(order) == most {
			return
		}
		for id := -1; id <= calls; id++ {
			from(append(slices.Clone(order), id))
		}
	}
	from(nil)
}

// wantJust asks for a history that has just these legal orders: the least one
// is the first of them.
func wantJust(t *testing.T, shape int, h *hist.Hist, all ...legal) {
	t.Helper()
	if len(all) == 0 {
		wantNone(t, shape, h)
	} else {
		wantLeast(t, shape, h, all[0].order...)
	}
	for _, l := range all {
		wantLegal(t, shape, h, l.order, l.items)
	}
	calls := len(h.Calls())
	eachOrder(calls, min(calls+1, 5), func(order []int) {
		is := func(l legal) bool { return slices.Equal(l.order, order) }
		if !slices.ContainsFunc(all, is) {
			wantIllegal(t, shape, h, order...)
		}
	})
}

func TestSets(t *testing.T) {
	for _, shape := range []int{api.List, api.Hash} {
		want := func(l []hist.Event, all ...legal) {
			t.Helper()
			wantJust(t, shape, made(t, l...), all...)
		}
		want(does(3, insert(9), yes()), legal{numbers(0), numbers(9)})
		want(does(3, insert(9), no()))
		want(does(3, remove(9), no()), legal{numbers(0), nil})
		want(does(3, remove(9), yes()))
		want(does(3, has(9), no()), legal{numbers(0), nil})
		want(does(3, has(9), yes()))
		want(rows(does(0, insert(7), yes()), does(1, insert(4), yes()), does(0, has(7), yes()), does(1, remove(7), yes())),
			legal{numbers(0, 1, 2, 3), numbers(4)})
		want(rows(does(0, insert(7), yes()), does(1, insert(4), yes()), does(0, has(7), no())))
		// Two insert one key, and a third one deletes it: just one finds nothing.
		want(events(begins(0, remove(9)), begins(1, insert(9)), begins(2, insert(9)), ends(2, no()), ends(1, yes())),
			legal{numbers(0, 1, 2), numbers(9)},
			legal{numbers(1, 2), numbers(9)},
			legal{numbers(1, 2, 0), nil})
		want(events(begins(0, insert(9)), begins(1, insert(9)), ends(0, yes()), ends(1, yes())))
		want(events(begins(0, insert(999)), begins(1, insert(0)), ends(0, yes()), ends(1, yes())),
			legal{numbers(0, 1), numbers(0, 999)},
			legal{numbers(1, 0), numbers(0, 999)})
		want(events(begins(0, has(5)), begins(1, insert(5)), ends(0, no()), ends(1, yes())),
			legal{numbers(0, 1), numbers(5)})
		want(events(begins(0, has(5)), begins(1, insert(5)), ends(0, yes()), ends(1, yes())),
			legal{numbers(1, 0), numbers(5)})
	}
}

func TestQueue(t *testing.T) {
	want := func(l []hist.Event, all ...legal) {
		t.Helper()
		wantJust(t, api.Queue, made(t, l...), all...)
	}
	want(does(3, put(9), yes()), legal{numbers(0), numbers(9)})
	want(does(3, take(), no()), legal{numbers(0), nil})
	want(does(3, take(), took(0)))
	both := events(begins(0, put(1)), begins(1, put(2)), ends(0, yes()), ends(1, yes()))
	want(both, legal{numbers(0, 1), numbers(1, 2)}, legal{numbers(1, 0), numbers(2, 1)})
	want(rows(both, does(4, take(), took(1))), legal{numbers(0, 1, 2), numbers(2)})
	want(rows(both, does(4, take(), took(2))), legal{numbers(1, 0, 2), numbers(1)})
	want(rows(both, does(4, take(), took(3))))
	want(rows(both, does(4, take(), no())))
	want(rows(does(0, put(1), yes()), does(0, put(2), yes()), does(1, take(), took(1)), does(1, take(), took(2))),
		legal{numbers(0, 1, 2, 3), nil})
	want(rows(does(0, put(1), yes()), does(0, put(2), yes()), does(1, take(), took(2)), does(1, take(), took(1))))
	want(rows(does(0, put(1), yes()), does(0, put(2), yes()), events(begins(1, take()), begins(2, take()), ends(1, took(2)), ends(2, took(1)))),
		legal{numbers(0, 1, 3, 2), nil})
	want(events(begins(0, put(5)), begins(1, take()), ends(0, yes()), ends(1, no())),
		legal{numbers(1, 0), numbers(5)})
	// Put 1 ends ahead of the last take: there is no room between them in which
	// the Queue has nothing.
	want(events(begins(0, put(2)), begins(1, take()), begins(2, put(1)), ends(0, yes()), ends(2, yes()),
		begins(0, take()), ends(0, took(2)), ends(1, no())),
		legal{numbers(1, 0, 2, 3), numbers(1)})
}

func TestStack(t *testing.T) {
	want := func(l []hist.Event, all ...legal) {
		t.Helper()
		wantJust(t, api.Stack, made(t, l...), all...)
	}
	want(does(3, put(9), yes()), legal{numbers(0), numbers(9)})
	want(does(3, take(), no()), legal{numbers(0), nil})
	want(does(3, take(), took(0)))
	both := events(begins(0, put(1)), begins(1, put(2)), ends(0, yes()), ends(1, yes()))
	want(both, legal{numbers(0, 1), numbers(2, 1)}, legal{numbers(1, 0), numbers(1, 2)})
	want(rows(both, does(4, take(), took(2))), legal{numbers(0, 1, 2), numbers(1)})
	want(rows(both, does(4, take(), took(1))), legal{numbers(1, 0, 2), numbers(2)})
	want(rows(both, does(4, take(), took(3))))
	want(rows(both, does(4, take(), no())))
	want(rows(does(0, put(1), yes()), does(0, put(2), yes()), does(1, take(), took(2)), does(1, take(), took(1))),
		legal{numbers(0, 1, 2, 3), nil})
	want(rows(does(0, put(1), yes()), does(0, put(2), yes()), does(1, take(), took(1)), does(1, take(), took(2))))
	want(events(begins(0, put(1)), begins(1, put(2)), begins(2, take()), ends(0, yes()), ends(2, took(1)), ends(1, yes())),
		legal{numbers(0, 2, 1), numbers(2)}, legal{numbers(1, 0, 2), numbers(2)})
	want(events(begins(0, put(5)), begins(1, take()), ends(0, yes()), ends(1, no())),
		legal{numbers(1, 0), numbers(5)})
}

func TestTheExample(t *testing.T) {
	l := events(begins(0, put(1)), begins(1, take()), ends(1, took(1)))
	wantJust(t, api.Queue, made(t, l...), legal{numbers(0, 1), nil})
	l[2] = ends(1, took(2))
	wantJust(t, api.Queue, made(t, l...))
}

func TestWithoutCalls(t *testing.T) {
	for _, shape := range shapes() {
		wantJust(t, shape, hist.New(), legal{nil, nil})
		wantJust(t, shape, &hist.Hist{}, legal{nil, nil})
		wantLegal(t, shape, hist.New(), numbers(), nil)
	}
}

// some is an operation of a shape that changes nothing, and what it is told at
// each place of an order.
func some(shape int) (api.Op, api.Res) {
	if isSet(shape) {
		return has(3), no()
	}
	return take(), no()
}

func TestNumbersThatAreNoCalls(t *testing.T) {
	for _, shape := range shapes() {
		op, res := some(shape)
		h := made(t, rows(does(0, op, res), does(1, op, res))...)
		wantLegal(t, shape, h, numbers(0, 1), nil)
		for _, id := range numbers(-1, 2, 3, 24, 32, 64, -64, 1<<32, 1<<32+1, -1<<32, math.MaxInt, math.MinInt) {
			wantIllegal(t, shape, h, 0, 1, id)
			wantIllegal(t, shape, h, id, 0, 1)
			wantIllegal(t, shape, h, 0, id)
			wantIllegal(t, shape, h, id)
			wantIllegal(t, shape, hist.New(), id)
		}
		wantIllegal(t, shape, hist.New(), 0)
	}
}

func TestNumbersThatStandTwice(t *testing.T) {
	for _, shape := range shapes() {
		op, res := some(shape)
		h := made(t, begins(0, op), begins(1, op), begins(2, op), ends(0, res), ends(1, res))
		wantLegal(t, shape, h, numbers(0, 1), nil)
		wantLegal(t, shape, h, numbers(2, 1, 0), nil)
		for _, order := range [][]int{{0, 0, 1}, {0, 1, 0}, {0, 1, 1}, {1, 1}, {0, 1, 2, 2}, {2, 0, 1, 2}} {
			wantIllegal(t, shape, h, order...)
		}
	}
}

func TestWhatMustStandAndWhatMustNot(t *testing.T) {
	for _, shape := range shapes() {
		op, res := some(shape)
		h := made(t, begins(0, op), begins(1, op), begins(2, op), begins(3, op), ends(0, res), ends(1, failed(api.ErrFull)), ends(2, res))
		wantJust(t, shape, h,
			legal{numbers(0, 2), nil}, legal{numbers(0, 2, 3), nil}, legal{numbers(0, 3, 2), nil}, legal{numbers(2, 0), nil},
			legal{numbers(2, 0, 3), nil}, legal{numbers(2, 3, 0), nil}, legal{numbers(3, 0, 2), nil}, legal{numbers(3, 2, 0), nil})
	}
}

// TestAnyOtherCode has results whose Code isn't OK, whatever else they tell.
func TestAnyOtherCode(t *testing.T) {
	for _, shape := range shapes() {
		op, res := some(shape)
		for _, e := range []api.Errno{api.ErrArg, api.ErrRange, api.ErrForm, api.ErrFull, api.ErrNone, api.ErrLong, 7, -1, math.MaxInt} {
			for _, r := range []api.Res{{Code: e}, {Code: e, Ok: true}, {Code: e, Ok: true, Val: 5}} {
				wantJust(t, shape, made(t, does(0, op, r)...), legal{nil, nil})
				wantJust(t, shape, made(t, rows(does(0, op, r), does(1, op, res))...), legal{numbers(1), nil})
			}
		}
	}
}

func TestFullDoesNothing(t *testing.T) {
	for _, shape := range []int{api.Queue, api.Stack} {
		wantJust(t, shape, made(t, rows(does(0, put(1), failed(api.ErrFull)), does(0, take(), no()))...), legal{numbers(1), nil})
		wantJust(t, shape, made(t, rows(does(0, put(1), failed(api.ErrFull)), does(0, take(), took(1)))...))
	}
	for _, shape := range []int{api.List, api.Hash} {
		wantJust(t, shape, made(t, rows(does(0, insert(1), failed(api.ErrFull)), does(0, has(1), no()))...), legal{numbers(1), nil})
		wantJust(t, shape, made(t, rows(does(0, insert(1), failed(api.ErrFull)), does(0, has(1), yes()))...))
	}
}

// strangers is operations that aren't of a shape.
func strangers(shape int) []api.Op {
	l := []api.Op{{}, {Kind: 6}, {Kind: -1}, {Kind: math.MaxInt}}
	kinds, others := []int{api.Put, api.Take}, []int{api.Insert, api.Delete, api.Has}
	if isSet(shape) {
		kinds, others = others, kinds
	}
	for _, kind := range others {
		l = append(l, api.Op{Kind: kind})
	}
	for _, kind := range kinds {
		l = append(l, api.Op{Kind: kind, Key: -1}, api.Op{Kind: kind, Key: 1000}, api.Op{Kind: kind, Key: math.MinInt})
	}
	return l
}

func TestOperationsOfAnotherShape(t *testing.T) {
	for _, shape := range shapes() {
		op, res := some(shape)
		for _, x := range strangers(shape) {
			for _, r := range []api.Res{no(), yes(), took(1)} {
				wantJust(t, shape, made(t, does(0, x, r)...))
				wantJust(t, shape, made(t, rows(does(0, op, res), does(0, x, r))...))
				wantJust(t, shape, made(t, rows(does(0, x, r), does(0, op, res))...))
			}
			// What doesn't stand in an order isn't of it.
			wantJust(t, shape, made(t, begins(1, x)), legal{nil, nil})
			wantJust(t, shape, made(t, rows(events(begins(1, x)), does(0, op, res))...), legal{numbers(1), nil})
			wantJust(t, shape, made(t, rows(does(1, x, failed(api.ErrArg)), does(0, op, res))...), legal{numbers(1), nil})
		}
	}
	wantJust(t, api.Queue, made(t, does(0, api.Op{Kind: api.Take, Key: 1}, no())...))
	wantJust(t, api.Stack, made(t, does(0, api.Op{Kind: api.Take, Key: 1}, no())...))
}

// TestOneShapesCallsAreAnothersToo has one history that is linear for one shape
// of a kind, and not for the other one.
func TestOneShapesCallsAreAnothersToo(t *testing.T) {
	h := made(t, rows(does(0, put(1), yes()), does(0, put(2), yes()), does(0, take(), took(1)))...)
	wantJust(t, api.Queue, h, legal{numbers(0, 1, 2), numbers(2)})
	wantJust(t, api.Stack, h)
	wantJust(t, api.List, h)
	wantJust(t, api.Hash, h)
	h = made(t, does(0, insert(1), yes())...)
	wantJust(t, api.List, h, legal{numbers(0), numbers(1)})
	wantJust(t, api.Hash, h, legal{numbers(0), numbers(1)})
	wantJust(t, api.Queue, h)
	wantJust(t, api.Stack, h)
}

// TestBefore has calls of which one ends just ahead of the beginning of another
// one, or just behind it.
func TestBefore(t *testing.T) {
	for _, shape := range shapes() {
		op, res := some(shape)
		wantJust(t, shape, made(t, begins(0, op), ends(0, res), begins(1, op), ends(1, res)), legal{numbers(0, 1), nil})
		wantJust(t, shape, made(t, begins(0, op), begins(1, op), ends(0, res), ends(1, res)),
			legal{numbers(0, 1), nil}, legal{numbers(1, 0), nil})
		wantJust(t, shape, made(t, begins(0, op), begins(1, op), ends(1, res), ends(0, res)),
			legal{numbers(0, 1), nil}, legal{numbers(1, 0), nil})
		// Call 0 ends first, but began ahead of all; call 2 is behind call 0 alone.
		wantJust(t, shape, made(t, begins(0, op), begins(1, op), ends(0, res), begins(2, op), ends(2, res), ends(1, res)),
			legal{numbers(0, 1, 2), nil}, legal{numbers(0, 2, 1), nil}, legal{numbers(1, 0, 2), nil})
		// What is pending is before nothing, but others are before it.
		wantJust(t, shape, made(t, begins(0, op), begins(1, op), ends(1, res), begins(2, op)),
			legal{numbers(0, 1), nil}, legal{numbers(0, 1, 2), nil}, legal{numbers(1), nil}, legal{numbers(1, 0), nil},
			legal{numbers(1, 0, 2), nil}, legal{numbers(1, 2), nil}, legal{numbers(1, 2, 0), nil})
	}
}

func TestResultsThatNoMeaningTells(t *testing.T) {
	for _, shape := range shapes() {
		ops := []api.Op{put(1), take()}
		if isSet(shape) {
			ops = []api.Op{insert(1), remove(1), has(1)}
		}
		for _, op := range ops {
			for _, r := range []api.Res{{Val: 1}, {Val: -1}, {Ok: true, Val: 2}, {Ok: true, Val: -1}, {Ok: true, Val: math.MinInt}} {
				l := rows(does(0, ops[0], yes()), does(1, op, r))
				wantJust(t, shape, made(t, l...))
				wantJust(t, shape, made(t, l[2:]...))
				wantJust(t, shape, made(t, l[0], l[2], l[1], l[3]))
			}
		}
	}
	for _, shape := range []int{api.Queue, api.Stack} {
		wantJust(t, shape, made(t, does(0, put(1), no())...))
		wantJust(t, shape, made(t, does(0, put(1), took(1))...))
	}
}

// TestPending has a pending call that may stand anywhere: what it is told is
// nobody's business.
func TestPending(t *testing.T) {
	wantJust(t, api.Queue, made(t, rows(events(begins(7, take())), does(0, put(5), yes()), does(0, take(), took(5)))...),
		legal{numbers(0, 1, 2), nil}, legal{numbers(1, 2), nil}, legal{numbers(1, 2, 0), nil})
	for _, shape := range []int{api.Queue, api.Stack} {
		wantJust(t, shape, made(t, rows(events(begins(7, take())), does(0, put(5), yes()), does(0, take(), no()))...),
			legal{numbers(1, 0, 2), nil})
	}
	wantJust(t, api.Queue, made(t, rows(events(begins(7, put(5))), does(0, take(), took(5)))...), legal{numbers(0, 1), nil})
	wantJust(t, api.Queue, made(t, rows(events(begins(7, put(5))), does(0, take(), no()))...),
		legal{numbers(1), nil}, legal{numbers(1, 0), numbers(5)})
	wantJust(t, api.Stack, made(t, rows(does(0, put(5), yes()), events(begins(7, put(6))), does(0, take(), took(5)))...),
		legal{numbers(0, 2), nil}, legal{numbers(0, 2, 1), numbers(6)})
	wantJust(t, api.List, made(t, rows(events(begins(7, remove(5))), does(0, insert(5), yes()), does(0, insert(5), yes()))...),
		legal{numbers(1, 0, 2), numbers(5)})
}

// TestOneEndsWhereAnotherGoesOn has orders of which one is the beginning of
// another one: that is the less one, unless a lesser number comes ahead.
func TestOneEndsWhereAnotherGoesOn(t *testing.T) {
	for _, shape := range []int{api.Queue, api.Stack} {
		wantJust(t, shape, made(t, begins(3, put(1))), legal{nil, nil}, legal{numbers(0), numbers(1)})
		wantJust(t, shape, made(t, rows(does(0, put(1), yes()), events(begins(0, put(1))))...),
			legal{numbers(0), numbers(1)}, legal{numbers(0, 1), numbers(1, 1)})
		wantJust(t, shape, made(t, begins(0, put(1)), begins(1, put(1)), ends(0, yes())),
			legal{numbers(0), numbers(1)}, legal{numbers(0, 1), numbers(1, 1)}, legal{numbers(1, 0), numbers(1, 1)})
		wantJust(t, shape, made(t, begins(0, put(1)), begins(1, put(1)), ends(1, yes())),
			legal{numbers(0, 1), numbers(1, 1)}, legal{numbers(1), numbers(1)}, legal{numbers(1, 0), numbers(1, 1)})
	}
}

func TestNoSuchShape(t *testing.T) {
	for _, shape := range noShape() {
		for _, h := range []*hist.Hist{hist.New(), made(t, does(0, put(1), yes())...), made(t, begins(0, api.Op{})), long(t, api.List, 25), nil} {
			wantIllegal(t, shape, h)
			wantIllegal(t, shape, h, 0)
			wantError(t, api.ErrArg, shape, h)
		}
	}
}

func TestNoHistory(t *testing.T) {
	for _, shape := range shapes() {
		wantIllegal(t, shape, nil)
		wantIllegal(t, shape, nil, 0)
		wantIllegal(t, shape, nil, 0, 1)
		wantError(t, api.ErrArg, shape, nil)
	}
}

// long is a history of so many calls, one behind the other.
func long(t *testing.T, shape, calls int) *hist.Hist {
	t.Helper()
	h := hist.New()
	for i := range calls {
		op := put(i)
		if isSet(shape) {
			op = insert(i)
		}
		h.Begin(i%api.MaxThreads, op)
		h.End(i%api.MaxThreads, yes())
	}
	return h
}

// upTo is the numbers from 0 on.
func upTo(n int) []int {
	var l []int
	for i := range n {
		l = append(l, i)
	}
	return l
}

// lasting is the items behind a long history.
func lasting(shape, calls int) []int {
	l := upTo(calls)
	if shape == api.Stack {
		slices.Reverse(l)
	}
	return l
}

func TestMaxCalls(t *testing.T) {
	for _, shape := range shapes() {
		for _, n := range numbers(1, 8, 23, 24) {
			wantLeast(t, shape, long(t, shape, n), upTo(n)...)
			wantLegal(t, shape, long(t, shape, n), upTo(n), lasting(shape, n))
		}
		for _, n := range numbers(25, 26, 40, 300) {
			h := long(t, shape, n)
			wantError(t, api.ErrLong, shape, h)
			wantLegal(t, shape, h, upTo(n), lasting(shape, n))
			wantIllegal(t, shape, h, upTo(n-1)...)
			wantIllegal(t, shape, h, upTo(n+1)...)
			wantIllegal(t, shape, h, append(upTo(n-2), n-1, n-2)...)
			wantIllegal(t, shape, h, append(upTo(n), n-1)...)
		}
	}
}

// TestEachCallCounts has calls that needn't, or mustn't, stand in an order.
func TestEachCallCounts(t *testing.T) {
	for _, shape := range shapes() {
		op, res := some(shape)
		h := hist.New()
		for range 23 {
			h.Begin(0, op)
			h.End(0, failed(api.ErrFull))
		}
		h.Begin(1, op)
		wantLeast(t, shape, h)
		wantLegal(t, shape, h, numbers(23), nil)
		c := h.Copy()
		c.End(1, res)
		wantLeast(t, shape, c, 23)
		h.Begin(2, op)
		wantError(t, api.ErrLong, shape, h)
		wantLegal(t, shape, h, nil, nil)
		c.Begin(2, op)
		wantError(t, api.ErrLong, shape, c)
	}
}

// TestManyCallsAreToldAtOnce asks for the order of so many calls that each of
// them, or each pair, had better not be looked at more than once.
func TestManyCallsAreToldAtOnce(t *testing.T) {
	h := hist.New()
	var order []int
	for i := range 20000 {
		h.Begin(i%8, has(i%1000))
		h.Begin((i+1)%8, has(i%1000))
		h.End(i%8, no())
		h.End((i+1)%8, no())
		order = append(order, 2*i+1, 2*i)
	}
	wantLegal(t, api.Hash, h, order, nil)
	last := len(order) - 1
	order[last], order[0] = order[0], order[last]
	if Legal(api.Hash, h, order...) {
		t.Error("the last call stands first")
	}
}

func TestNothingIsChanged(t *testing.T) {
	for _, shape := range shapes() {
		op, res := some(shape)
		l := events(begins(0, op), begins(1, op), begins(2, op), ends(1, res), ends(0, res), begins(0, op), ends(0, failed(api.ErrFull)))
		h := made(t, l...)
		calls := h.Calls()
		for _, order := range [][]int{{}, {0}, {0, 1}, {1, 0, 2}, {2, 1, 0}, {0, 1, 2, 2}, {0, 1, 3}, {-1, 7}} {
			room := make([]int, 9)
			for i := copy(room, order); i < len(room); i++ {
				room[i] = 50 + i
			}
			kept := slices.Clone(room)
			Legal(shape, h, room[:len(order)]...)
			Behind(shape, h, room[:len(order)]...)
			if !slices.Equal(room, kept) {
				t.Errorf("shape %d: written into: %v; it was %v", shape, room, kept)
			}
		}
		Order(shape, h)
		Linear(shape, h)
		if !slices.Equal(h.Events(), l) || !slices.Equal(h.Calls(), calls) {
			t.Errorf("shape %d: the history has changed: %v", shape, h.Events())
		}
		if e := h.End(2, res); e != api.OK {
			t.Errorf("shape %d: the history can't go on: %v", shape, e)
		}
	}
}

func TestWhatIsAnsweredIsTheCallersOwn(t *testing.T) {
	for _, shape := range shapes() {
		h := long(t, shape, 9)
		order, _, _ := Order(shape, h)
		other, _, _ := Order(shape, h)
		items, _ := Behind(shape, h, order...)
		clear(order)
		clear(items)
		_ = append(order[:0], 77, 78)
		_ = append(items[:0], 77, 78)
		if !slices.Equal(other, upTo(9)) {
			t.Errorf("shape %d: one order has the other one's room: %v", shape, other)
		}
		wantLeast(t, shape, h, upTo(9)...)
		wantLegal(t, shape, h, other, lasting(shape, 9))
	}
}
