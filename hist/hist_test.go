package hist

import (
	"math"
	"slices"
	"testing"

	"sherpa/api"
)

// strangers is numbers that are no thread's.
func strangers() []int {
	return []int{-1, 8, -2, 9, -8, 16, 1000, -1000, 1 << 32, -1 << 32, math.MaxInt, math.MinInt}
}

func put(key int) api.Op   { return api.Op{Kind: api.Put, Key: key} }
func has(key int) api.Op   { return api.Op{Kind: api.Has, Key: key} }
func took(val int) api.Res { return api.Res{Ok: true, Val: val} }

func begins(thread int, op api.Op) Event { return Event{Thread: thread, Op: op} }
func ends(thread int, res api.Res) Event { return Event{Thread: thread, Ends: true, Res: res} }
func span(began, ended int) Span         { return Span{Began: began, Ended: ended} }

// asked asks a history for an event more, by Begin or End.
func asked(h *Hist, v Event) api.Errno {
	if v.Ends {
		return h.End(v.Thread, v.Res)
	}
	return h.Begin(v.Thread, v.Op)
}

// made is a history of events, all of them right.
func made(t *testing.T, l ...Event) *Hist {
	t.Helper()
	h := New()
	for i, v := range l {
		if e := asked(h, v); e != api.OK {
			t.Fatalf("event %d, %v: %v", i, v, e)
		}
	}
	return h
}

// pending tells whether a thread's last one of some events begins something.
func pending(thread int, l []Event) bool {
	for _, v := range slices.Backward(l) {
		if v.Thread == thread {
			return !v.Ends
		}
	}
	return false
}

// callsOf is the calls of events that are right: each one's end is its
// thread's next event.
func callsOf(l []Event) []Call {
	var calls []Call
	for began, v := range l {
		if v.Ends {
			continue
		}
		c := Call{Span: span(began, -1), Id: len(calls), Thread: v.Thread, Op: v.Op}
		next := slices.IndexFunc(l[began+1:], func(x Event) bool { return x.Thread == v.Thread })
		if next >= 0 {
			c.Ended = began + 1 + next
			c.Res = l[c.Ended].Res
		}
		calls = append(calls, c)
	}
	return calls
}

// want asks for a history of just these events.
func want(t *testing.T, h *Hist, l ...Event) {
	t.Helper()
	if h.Len() != len(l) {
		t.Errorf("Len() = %d; want %d", h.Len(), len(l))
	}
	if got := h.Events(); !slices.Equal(got, l) {
		t.Errorf("Events() = %v; want %v", got, l)
	}
	if got := h.Calls(); !slices.Equal(got, callsOf(l)) {
		t.Errorf("Calls() = %v; want %v", got, callsOf(l))
	}
	for thread := -2; thread < 11; thread++ {
		if h.Pending(thread) != pending(thread, l) {
			t.Errorf("Pending(%d) = %v behind %v", thread, h.Pending(thread), l)
		}
	}
}

// refuse asks for an event that a history of these ones is to refuse.
func refuse(t *testing.T, e api.Errno, v Event, l ...Event) {
	t.Helper()
	h := made(t, l...)
	if got := asked(h, v); got != e {
		t.Errorf("%v behind %v: %v; want %v", v, l, got, e)
	}
	want(t, h, l...)
}

// crowd is some threads at once, ended in other orders than they began, some
// of which begin again.
func crowd() []Event {
	return []Event{
		begins(3, put(30)), begins(0, put(31)), begins(7, has(32)), begins(1, put(33)),
		ends(7, took(1)), ends(3, api.Res{}), begins(7, put(34)), begins(2, has(35)),
		ends(1, api.Res{Code: api.ErrFull}), begins(3, put(36)), ends(2, took(2)), ends(7, took(3)),
		begins(7, put(37)), ends(0, took(4)),
	}
}

func TestNoEvents(t *testing.T) {
	want(t, New())
	want(t, &Hist{})
	if New().Events() != nil || New().Calls() != nil {
		t.Error("without events there is a list")
	}
}

func TestNewOnesAreApart(t *testing.T) {
	a, b := New(), New()
	a.Begin(3, put(1))
	want(t, b)
	want(t, a, begins(3, put(1)))
}

func TestEachThreadBeginsAndEnds(t *testing.T) {
	for thread := range api.MaxThreads {
		h := New()
		for i := range 3 {
			key := 10*thread + i
			l := h.Events()
			if e := h.Begin(thread, put(key)); e != api.OK {
				t.Errorf("thread %d: Begin: %v", thread, e)
			}
			l = append(l, begins(thread, put(key)))
			want(t, h, l...)
			if e := h.End(thread, took(key)); e != api.OK {
				t.Errorf("thread %d: End: %v", thread, e)
			}
			want(t, h, append(l, ends(thread, took(key)))...)
		}
	}
}

func TestThreadsThatAreNone(t *testing.T) {
	for _, thread := range strangers() {
		for _, l := range [][]Event{nil, {begins(0, put(1)), begins(7, put(2))}, crowd()} {
			refuse(t, api.ErrRange, begins(thread, put(5)), l...)
			refuse(t, api.ErrRange, ends(thread, took(5)), l...)
			if made(t, l...).Pending(thread) {
				t.Errorf("thread %d has one pending", thread)
			}
		}
	}
}

func TestBeginOfOneThatHasOnePending(t *testing.T) {
	for thread := range api.MaxThreads {
		begun := begins(thread, put(4))
		refuse(t, api.ErrArg, begins(thread, put(4)), begun)
		refuse(t, api.ErrArg, begins(thread, has(9)), begun)
		refuse(t, api.ErrArg, begins(thread, api.Op{}), begun, begins((thread+1)%8, put(5)))
		refuse(t, api.ErrArg, begins(thread, put(6)), begun, ends(thread, took(1)), begins(thread, put(5)))
	}
	for _, thread := range []int{3, 7} {
		refuse(t, api.ErrArg, begins(thread, put(4)), crowd()...)
	}
}

func TestEndOfOneThatHasNonePending(t *testing.T) {
	for thread := range api.MaxThreads {
		end := ends(thread, took(3))
		refuse(t, api.ErrNone, end)
		refuse(t, api.ErrNone, end, begins((thread+1)%8, put(5)))
		refuse(t, api.ErrNone, end, begins(thread, put(5)), end)
		refuse(t, api.ErrNone, end, begins(thread, put(5)), begins((thread+7)%8, put(6)), end)
	}
	for _, thread := range []int{0, 1, 2, 4, 5, 6} {
		refuse(t, api.ErrNone, ends(thread, api.Res{}), crowd()...)
	}
}

func TestWhatIsRefusedIsForgotten(t *testing.T) {
	h := New()
	h.End(2, took(1))
	h.Begin(8, put(1))
	h.Begin(2, put(2))
	h.Begin(2, put(3))
	h.End(-1, took(2))
	h.End(2, took(3))
	h.End(2, took(4))
	h.Begin(2, put(5))
	want(t, h, begins(2, put(2)), ends(2, took(3)), begins(2, put(5)))
}

func TestManyAtOnce(t *testing.T) {
	h := New()
	for i, v := range crowd() {
		if e := asked(h, v); e != api.OK {
			t.Fatal(i, v, e)
		}
		want(t, h, crowd()[:i+1]...)
	}
}

func TestCallsOfManyAtOnce(t *testing.T) {
	calls := []Call{
		{Span: span(0, 5), Id: 0, Thread: 3, Op: put(30)},
		{Span: span(1, 13), Id: 1, Thread: 0, Op: put(31), Res: took(4)},
		{Span: span(2, 4), Id: 2, Thread: 7, Op: has(32), Res: took(1)},
		{Span: span(3, 8), Id: 3, Thread: 1, Op: put(33), Res: api.Res{Code: api.ErrFull}},
		{Span: span(6, 11), Id: 4, Thread: 7, Op: put(34), Res: took(3)},
		{Span: span(7, 10), Id: 5, Thread: 2, Op: has(35), Res: took(2)},
		{Span: span(9, -1), Id: 6, Thread: 3, Op: put(36)},
		{Span: span(12, -1), Id: 7, Thread: 7, Op: put(37)},
	}
	if got := made(t, crowd()...).Calls(); !slices.Equal(got, calls) {
		t.Errorf("%v; want %v", got, calls)
	}
}

// TestEndsInEachOrder lets all of four threads begin, and end in each order.
func TestEndsInEachOrder(t *testing.T) {
	for x := range 4 * 4 * 4 * 4 {
		order := []int{x % 4, x / 4 % 4, x / 16 % 4, x / 64}
		var l []Event
		for thread := range 4 {
			l = append(l, begins(thread, put(thread)))
		}
		h := made(t, l...)
		for _, thread := range order {
			e := api.ErrNone
			if pending(thread, l) {
				e = api.OK
				l = append(l, ends(thread, took(50+thread)))
			}
			if got := h.End(thread, took(50+thread)); got != e {
				t.Errorf("%v: End(%d): %v; want %v", order, thread, got, e)
			}
			want(t, h, l...)
		}
	}
}

func TestAnyOperationsAndResults(t *testing.T) {
	var l []Event
	numbers := []int{0, 1, -1, 5, 6, 999, 1000, 1 << 40, math.MaxInt, math.MinInt}
	for i, n := range numbers {
		for j, x := range numbers {
			thread := (i + j) % api.MaxThreads
			op := api.Op{Kind: n, Key: x}
			res := api.Res{Code: api.Errno(n), Ok: j%2 == 0, Val: x}
			l = append(l, begins(thread, op), ends(thread, res))
		}
	}
	want(t, made(t, l...), l...)
	h, e := Of(l...)
	if e != api.OK || h == nil {
		t.Fatal(e)
	}
	want(t, h, l...)
}

// TestAnyEvents holds each of many events against a list of those that were
// taken so far.
func TestAnyEvents(t *testing.T) {
	h := New()
	var l []Event
	for i, x := 0, 1; i < 700; i++ {
		x = x * 75 % 65537
		thread := x/8%(api.MaxThreads+2) - 1
		v := begins(thread, put(i))
		if x/256%2 == 0 {
			v = ends(thread, took(i))
		}
		e := api.OK
		switch {
		case thread < 0 || thread >= api.MaxThreads:
			e = api.ErrRange
		case v.Ends && !pending(thread, l):
			e = api.ErrNone
		case !v.Ends && pending(thread, l):
			e = api.ErrArg
		default:
			l = append(l, v)
		}
		if got := asked(h, v); got != e {
			t.Errorf("event %d, %v: %v; want %v", i, v, got, e)
		}
		want(t, h, l...)
	}
	if len(l) < 200 {
		t.Error("just", len(l), "events")
	}
}

func TestPending(t *testing.T) {
	for thread := range api.MaxThreads {
		h := New()
		for range 3 {
			for x := range api.MaxThreads {
				if h.Pending(x) {
					t.Errorf("thread %d: Pending(%d) ahead of it", thread, x)
				}
			}
			h.Begin(thread, put(1))
			for x := range api.MaxThreads {
				if h.Pending(x) != (x == thread) {
					t.Errorf("thread %d: Pending(%d) = %v", thread, x, h.Pending(x))
				}
			}
			h.End(thread, took(1))
		}
	}
}

func TestSpansArePending(t *testing.T) {
	for _, c := range []struct {
		s  Span
		is bool
	}{
		{span(0, -1), true}, {span(7, -1), true}, {span(0, -2), true}, {span(0, math.MinInt), true},
		{span(0, 0), false}, {span(0, 1), false}, {span(3, 9), false}, {span(0, math.MaxInt), false},
		{span(-1, 0), false}, {span(-1, -1), true}, {Span{}, false},
	} {
		if c.s.Pending() != c.is {
			t.Errorf("%v.Pending() = %v", c.s, !c.is)
		}
	}
}

func TestBefore(t *testing.T) {
	for _, c := range []struct {
		a, b Span
		is   bool // the other way round none of these is
	}{
		{span(0, 1), span(2, 3), true},
		{span(0, 1), span(2, -1), true},
		{span(0, 0), span(1, 1), true},
		{span(0, 1), span(100, 200), true},
		{span(0, 1), span(1, 2), false},
		{span(0, 2), span(1, 3), false},
		{span(0, 3), span(1, 2), false},
		{span(0, 3), span(1, -1), false},
		{span(0, -1), span(1, 2), false},
		{span(0, -1), span(1, -1), false},
		{span(0, -1), span(0, -1), false},
		{span(4, 5), span(4, 5), false},
		{span(4, 4), span(4, 4), false},
		{span(0, math.MinInt), span(9, 12), false},
		{span(9, 12), span(-1, -1), false},
	} {
		if c.a.Before(c.b) != c.is || c.b.Before(c.a) {
			t.Errorf("%v, %v: %v, %v", c.a, c.b, c.a.Before(c.b), c.b.Before(c.a))
		}
	}
}

func TestCallsHaveTheirSpans(t *testing.T) {
	l := made(t, begins(0, put(1)), begins(1, put(2)), ends(0, took(0)), begins(0, put(3)), ends(1, took(0)), begins(2, put(4))).Calls()
	if len(l) != 4 || l[0].Span != span(0, 2) || l[1].Span != span(1, 4) || l[2].Span != span(3, -1) || l[3].Span != span(5, -1) {
		t.Fatal(l)
	}
	before := map[[2]int]bool{{0, 2}: true, {0, 3}: true, {1, 3}: true}
	for i := range l {
		if l[i].Pending() != (i > 1) {
			t.Errorf("call %d: Pending() = %v", i, l[i].Pending())
		}
		for j := range l {
			if l[i].Before(l[j].Span) != before[[2]int{i, j}] {
				t.Errorf("call %d before %d: %v", i, j, l[i].Before(l[j].Span))
			}
		}
	}
}

func TestTheExample(t *testing.T) {
	h := made(t, begins(0, put(1)), begins(1, put(2)), ends(0, took(0)))
	l := h.Calls()
	if len(l) != 2 || l[0].Span != span(0, 2) || l[1].Span != span(1, -1) || l[0].Before(l[1].Span) || l[1].Before(l[0].Span) {
		t.Error(l)
	}
}

func TestWhatIsHandedOutIsForItself(t *testing.T) {
	h := made(t, crowd()...)
	v, c := h.Events(), h.Calls()
	for i := range v {
		v[i] = begins(5, put(500))
	}
	for i := range c {
		c[i] = Call{Span: span(50, 51), Id: 52, Thread: 5, Op: put(500), Res: took(500)}
	}
	_ = append(v[:2], begins(6, put(501)))
	_ = append(c[:2], Call{Id: 53})
	want(t, h, crowd()...)
	v, c = h.Events(), h.Calls()
	kept := slices.Clone(c)
	h.Begin(5, put(6))
	h.End(7, took(6))
	h.End(3, took(6))
	if !slices.Equal(v, crowd()) || !slices.Equal(c, kept) {
		t.Error("what was handed out has changed:", v, c)
	}
	want(t, h, append(crowd(), begins(5, put(6)), ends(7, took(6)), ends(3, took(6)))...)
}

// TestCopyIsForItself lets a history and its copy go different ways, from each
// place on, so that they would meet in what they had shared.
func TestCopyIsForItself(t *testing.T) {
	for i := range len(crowd()) + 1 {
		was := crowd()[:i:i]
		h := made(t, was...)
		c := h.Copy()
		want(t, c, was...)
		a, b := was, was
		for thread := range api.MaxThreads {
			v, x := begins(thread, put(60+thread)), begins(thread, has(70+thread))
			if pending(thread, was) {
				v, x = ends(thread, took(60+thread)), ends(thread, took(70+thread))
			}
			if e := asked(h, v); e != api.OK {
				t.Errorf("%v: %v", v, e)
			}
			a = append(a, v)
			want(t, h, a...)
			want(t, c, b...)
			if e := asked(c, x); e != api.OK {
				t.Errorf("the copy: %v: %v", x, e)
			}
			b = append(b, x)
			want(t, h, a...)
			want(t, c, b...)
		}
	}
}

func TestCopyRefusesLikeIt(t *testing.T) {
	c := made(t, begins(4, put(1)), begins(5, put(2)), ends(5, took(0))).Copy()
	if e := c.Begin(4, put(3)); e != api.ErrArg {
		t.Error(e)
	}
	if e := c.End(5, took(1)); e != api.ErrNone {
		t.Error(e)
	}
	want(t, c, begins(4, put(1)), begins(5, put(2)), ends(5, took(0)))
}

// asIs asks for the history of events, into which nothing is to be written.
func asIs(t *testing.T, l []Event) (*Hist, api.Errno) {
	t.Helper()
	kept := slices.Clone(l)
	h, e := Of(l...)
	if !slices.Equal(l, kept) {
		t.Errorf("written into: %v; it was %v", l, kept)
	}
	return h, e
}

// of asks for the history of events, which is to be that of others.
func of(t *testing.T, l []Event, is ...Event) {
	t.Helper()
	h, e := asIs(t, l)
	if e != api.OK || h == nil {
		t.Fatalf("Of(%v) = %v, %v", l, h, e)
	}
	want(t, h, is...)
}

func TestOf(t *testing.T) {
	of(t, nil)
	of(t, []Event{})
	of(t, []Event{begins(6, put(1))}, begins(6, put(1)))
	of(t, []Event{begins(6, put(1)), ends(6, took(9))}, begins(6, put(1)), ends(6, took(9)))
	for i := range len(crowd()) + 1 {
		of(t, crowd()[:i], crowd()[:i]...)
		of(t, made(t, crowd()[:i]...).Events(), crowd()[:i]...)
	}
}

func TestOfGoesOn(t *testing.T) {
	h, _ := Of(crowd()...)
	if e := h.Begin(7, put(1)); e != api.ErrArg {
		t.Error(e)
	}
	if e := h.End(7, took(1)); e != api.OK {
		t.Error(e)
	}
	if e := h.Begin(4, put(2)); e != api.OK {
		t.Error(e)
	}
	want(t, h, append(crowd(), ends(7, took(1)), begins(4, put(2)))...)
}

// TestOfLooksAtNothingElse has a Res in what begins, and an Op in what ends.
func TestOfLooksAtNothingElse(t *testing.T) {
	l := crowd()
	for i := range l {
		if l[i].Ends {
			l[i].Op = api.Op{Kind: 77, Key: -1 - i}
		} else {
			l[i].Res = api.Res{Code: api.ErrLong, Ok: true, Val: 900 + i}
		}
	}
	of(t, l, crowd()...)
	of(t, l[:1], crowd()[:1]...)
}

// wrong asks for an error that Of is to tell of events.
func wrong(t *testing.T, e api.Errno, l ...Event) {
	t.Helper()
	if h, got := asIs(t, l); h != nil || got != e {
		t.Errorf("Of(%v) = %v, %v; want %v", l, h, got, e)
	}
}

func TestOfWithAWrongOne(t *testing.T) {
	for i := range len(crowd()) + 1 {
		add := func(v ...Event) []Event { return slices.Insert(crowd(), i, v...) }
		for _, thread := range strangers() {
			wrong(t, api.ErrRange, add(begins(thread, put(1)))...)
			wrong(t, api.ErrRange, add(ends(thread, took(1)))...)
		}
		for thread := range api.MaxThreads {
			if pending(thread, crowd()[:i]) {
				wrong(t, api.ErrArg, add(begins(thread, put(1)))...)
				wrong(t, api.ErrNone, add(ends(thread, took(1)), ends(thread, took(1)))...)
			} else {
				wrong(t, api.ErrNone, add(ends(thread, took(1)))...)
				wrong(t, api.ErrArg, add(begins(thread, put(1)), begins(thread, put(1)))...)
			}
		}
	}
}

func TestOfTellsTheFirstError(t *testing.T) {
	all := []struct {
		e api.Errno
		l []Event
	}{
		{api.ErrRange, []Event{begins(8, put(1))}},
		{api.ErrRange, []Event{ends(-1, took(1))}},
		{api.ErrArg, []Event{begins(5, put(1)), begins(5, put(2))}},
		{api.ErrNone, []Event{ends(6, took(1))}},
	}
	for _, first := range all {
		for _, next := range all {
			wrong(t, first.e, slices.Concat(first.l, next.l)...)
			wrong(t, first.e, slices.Concat(crowd(), first.l, next.l)...)
			wrong(t, first.e, slices.Concat(first.l, crowd(), next.l)...)
		}
	}
}

func TestNoArgumentIsWrittenInto(t *testing.T) {
	for _, behind := range [][]Event{nil, {begins(8, put(1))}, {ends(5, took(1))}, {begins(3, put(1))}} {
		all := slices.Concat(crowd(), behind, crowd())
		kept := slices.Clone(all)
		h, _ := Of(all[:len(crowd())+len(behind)]...)
		if h != nil {
			h.Begin(5, put(1))
			h.End(7, took(1))
			h.Begin(7, put(2))
		}
		if !slices.Equal(all, kept) {
			t.Error("written into:", all)
		}
	}
	l := crowd()
	h, _ := Of(l...)
	clear(l)
	want(t, h, crowd()...)
}
