package spec

import (
	"math"
	"slices"
	"testing"

	"sherpa/api"
)

func shapes() []int  { return []int{api.List, api.Hash, api.Queue, api.Stack} }
func sets() []int    { return []int{api.List, api.Hash} }
func noShape() []int { return []int{math.MinInt, -4, -1, 0, 5, 6, 7, 8, 9, 1 << 32, math.MaxInt} }

func insert(key int) api.Op { return api.Op{Kind: api.Insert, Key: key} }
func remove(key int) api.Op { return api.Op{Kind: api.Delete, Key: key} }
func has(key int) api.Op    { return api.Op{Kind: api.Has, Key: key} }
func put(key int) api.Op    { return api.Op{Kind: api.Put, Key: key} }
func take() api.Op          { return api.Op{Kind: api.Take} }

func yes() api.Res             { return api.Res{Ok: true} }
func no() api.Res              { return api.Res{} }
func took(key int) api.Res     { return api.Res{Ok: true, Val: key} }
func told(ok bool) api.Res     { return api.Res{Ok: ok} }
func keys(l ...int) []int      { return l }
func ops(l ...api.Op) []api.Op { return l }

// made is a meaning of a shape behind operations, all of them right.
func made(t *testing.T, shape int, l ...api.Op) *Spec {
	t.Helper()
	s, e := New(shape)
	if e != api.OK || s == nil {
		t.Fatalf("New(%d) = %v, %v", shape, s, e)
	}
	for _, op := range l {
		if _, e := s.Do(op); e != api.OK {
			t.Fatalf("shape %d: Do(%v): %v", shape, op, e)
		}
	}
	return s
}

// with is a meaning of a shape that has just these items.
func with(t *testing.T, shape int, items ...int) *Spec {
	t.Helper()
	var l []api.Op
	for _, key := range items {
		switch shape {
		case api.List, api.Hash:
			l = append(l, insert(key))
		case api.Queue:
			l = append(l, put(key))
		case api.Stack:
			l = slices.Insert(l, 0, put(key))
		}
	}
	s := made(t, shape, l...)
	want(t, s, shape, items...)
	return s
}

// want asks for a meaning of a shape with just these items, in this order.
func want(t *testing.T, s *Spec, shape int, items ...int) {
	t.Helper()
	if s.Shape != shape || s.Len() != len(items) || !slices.Equal(s.Items(), items) {
		t.Errorf("shape %d, %d items: %v; want shape %d: %v", s.Shape, s.Len(), s.Items(), shape, items)
	}
	first, ok := s.First()
	if len(items) == 0 && (ok || first != 0) || len(items) > 0 && (!ok || first != items[0]) {
		t.Errorf("First() = %d, %v; items %v", first, ok, items)
	}
}

// step does an operation, and asks for what it tells and leaves.
func step(t *testing.T, s *Spec, op api.Op, r api.Res, items ...int) {
	t.Helper()
	shape := s.Shape
	if got, e := s.Do(op); e != api.OK || got != r {
		t.Errorf("shape %d: Do(%v) = %v, %v; want %v", shape, op, got, e, r)
	}
	want(t, s, shape, items...)
}

func TestNewOfEachShape(t *testing.T) {
	for _, shape := range shapes() {
		want(t, made(t, shape), shape)
	}
}

func TestNewOfNoShape(t *testing.T) {
	for _, shape := range noShape() {
		if s, e := New(shape); s != nil || e != api.ErrArg {
			t.Errorf("New(%d) = %v, %v", shape, s, e)
		}
	}
}

func TestNewOnesAreApart(t *testing.T) {
	a, b := made(t, api.List), made(t, api.List)
	step(t, a, insert(3), yes(), 3)
	want(t, b, api.List)
}

func TestInsert(t *testing.T) {
	for _, shape := range sets() {
		s := made(t, shape)
		step(t, s, insert(50), yes(), 50)
		step(t, s, insert(50), no(), 50)
		step(t, s, insert(20), yes(), 20, 50)
		step(t, s, insert(80), yes(), 20, 50, 80)
		step(t, s, insert(30), yes(), 20, 30, 50, 80)
		step(t, s, insert(0), yes(), 0, 20, 30, 50, 80)
		step(t, s, insert(999), yes(), 0, 20, 30, 50, 80, 999)
		for _, key := range s.Items() {
			step(t, s, insert(key), no(), 0, 20, 30, 50, 80, 999)
		}
	}
}

func TestDelete(t *testing.T) {
	for _, shape := range sets() {
		s := with(t, shape, 0, 20, 30, 50, 80, 999)
		for _, key := range keys(1, 29, 31, 79, 998) {
			step(t, s, remove(key), no(), 0, 20, 30, 50, 80, 999)
		}
		step(t, s, remove(30), yes(), 0, 20, 50, 80, 999)
		step(t, s, remove(30), no(), 0, 20, 50, 80, 999)
		step(t, s, remove(0), yes(), 20, 50, 80, 999)
		step(t, s, remove(999), yes(), 20, 50, 80)
		step(t, s, remove(50), yes(), 20, 80)
		step(t, s, remove(20), yes(), 80)
		step(t, s, remove(80), yes())
		step(t, s, remove(80), no())
		step(t, s, insert(80), yes(), 80)
	}
}

func TestHas(t *testing.T) {
	for _, shape := range sets() {
		s := with(t, shape, 0, 20, 30, 999)
		for _, c := range []struct {
			key int
			ok  bool
		}{{0, true}, {1, false}, {19, false}, {20, true}, {21, false}, {29, false}, {30, true}, {31, false}, {998, false}, {999, true}} {
			step(t, s, has(c.key), told(c.ok), 0, 20, 30, 999)
		}
	}
}

func TestSetWithoutItems(t *testing.T) {
	for _, shape := range sets() {
		for _, key := range keys(0, 5, 999) {
			s := made(t, shape)
			step(t, s, has(key), no())
			step(t, s, remove(key), no())
			step(t, s, insert(key), yes(), key)
		}
	}
}

// A hash's meaning is one set: what its heads have isn't told apart.
func TestHashRisesOverItsHeads(t *testing.T) {
	want(t, made(t, api.Hash, insert(7), insert(4), insert(6), insert(8), insert(5)), api.Hash, 4, 5, 6, 7, 8)
}

// TestSetsAreSets holds each of many operations against a set that is told by
// a row of flags.
func TestSetsAreSets(t *testing.T) {
	for _, shape := range sets() {
		s := made(t, shape)
		var there [7]bool
		for i, x := 0, 1; i < 5000; i++ {
			x = x * 75 % 65537
			op := api.Op{Kind: x/16%3 + 1, Key: x / 64 % 7}
			ok := there[op.Key] != (op.Kind == api.Insert)
			if op.Kind != api.Has {
				there[op.Key] = op.Kind == api.Insert
			}
			var items []int
			for key, is := range there {
				if is {
					items = append(items, key)
				}
			}
			step(t, s, op, told(ok), items...)
		}
	}
}

func TestQueue(t *testing.T) {
	s := made(t, api.Queue)
	step(t, s, take(), no())
	step(t, s, put(9), yes(), 9)
	step(t, s, put(4), yes(), 9, 4)
	step(t, s, put(9), yes(), 9, 4, 9)
	step(t, s, put(0), yes(), 9, 4, 9, 0)
	step(t, s, take(), took(9), 4, 9, 0)
	step(t, s, take(), took(4), 9, 0)
	step(t, s, put(999), yes(), 9, 0, 999)
	step(t, s, take(), took(9), 0, 999)
	step(t, s, take(), took(0), 999)
	step(t, s, take(), took(999))
	step(t, s, take(), no())
	step(t, s, put(5), yes(), 5)
	step(t, s, take(), took(5))
	step(t, s, take(), no())
}

func TestStack(t *testing.T) {
	s := made(t, api.Stack)
	step(t, s, take(), no())
	step(t, s, put(9), yes(), 9)
	step(t, s, put(4), yes(), 4, 9)
	step(t, s, put(9), yes(), 9, 4, 9)
	step(t, s, put(0), yes(), 0, 9, 4, 9)
	step(t, s, take(), took(0), 9, 4, 9)
	step(t, s, take(), took(9), 4, 9)
	step(t, s, put(999), yes(), 999, 4, 9)
	step(t, s, take(), took(999), 4, 9)
	step(t, s, take(), took(4), 9)
	step(t, s, take(), took(9))
	step(t, s, take(), no())
	step(t, s, put(5), yes(), 5)
	step(t, s, take(), took(5))
	step(t, s, take(), no())
}

func TestManyGoInAndOut(t *testing.T) {
	for _, shape := range []int{api.Queue, api.Stack} {
		s := made(t, shape)
		for i := range 1000 {
			if r, e := s.Do(put(i)); r != yes() || e != api.OK {
				t.Fatal(shape, i, r, e)
			}
		}
		for i := range 1000 {
			key := i
			if shape == api.Stack {
				key = 999 - i
			}
			if r, e := s.Do(take()); r != took(key) || e != api.OK || s.Len() != 999-i {
				t.Fatal(shape, i, r, e)
			}
		}
		want(t, s, shape)
	}
}

// wrong is operations that aren't of a shape.
func wrong(shape int) []api.Op {
	l := ops(insert(-1), insert(1000), put(-1), put(1000), remove(-1), remove(1000), has(-1), has(1000),
		api.Op{Kind: 0}, api.Op{Kind: 0, Key: 20}, api.Op{Kind: 6}, api.Op{Kind: 6, Key: 20}, api.Op{Kind: -1, Key: 20},
		api.Op{Kind: api.Take, Key: 20}, api.Op{Kind: api.Take, Key: -1}, api.Op{Kind: api.Take, Key: 1000},
		api.Op{Kind: math.MinInt, Key: math.MinInt}, api.Op{Kind: math.MaxInt, Key: math.MaxInt})
	if shape == api.List || shape == api.Hash {
		return append(l, put(20), put(1), take())
	}
	return append(l, insert(20), insert(1), remove(20), remove(1), has(20), has(1), insert(0), remove(0), has(0))
}

func TestDoOfWrongOperations(t *testing.T) {
	for _, shape := range shapes() {
		for _, items := range [][]int{nil, {20}, {10, 20, 30}} {
			s := with(t, shape, items...)
			for _, op := range wrong(shape) {
				if r, e := s.Do(op); e != api.ErrArg || r != no() {
					t.Errorf("shape %d: Do(%v) = %v, %v", shape, op, r, e)
				}
				want(t, s, shape, items...)
			}
		}
	}
}

func TestDoWithoutShape(t *testing.T) {
	for _, shape := range noShape() {
		s := &Spec{Shape: shape}
		for _, op := range ops(insert(1), remove(1), has(1), put(1), take()) {
			if r, e := s.Do(op); e != api.ErrArg || r != no() || s.Len() != 0 {
				t.Errorf("shape %d: Do(%v) = %v, %v", shape, op, r, e)
			}
		}
	}
}

func TestBag(t *testing.T) {
	for _, shape := range shapes() {
		for _, items := range [][]int{nil, {0}, {7}, {0, 1}, {1, 2, 3}, {0, 10, 500, 998, 999}} {
			want(t, with(t, shape, items...), shape, items...)
		}
	}
}

func TestItemsAreHandedOutForThemselves(t *testing.T) {
	for _, shape := range shapes() {
		s := with(t, shape, 10, 20, 30)
		a, b := s.Items(), s.Items()
		a[0], a[2] = 500, 501
		_ = append(a[:1], 502)
		if !slices.Equal(b, keys(10, 20, 30)) {
			t.Errorf("shape %d: two lists share memory: %v", shape, b)
		}
		want(t, s, shape, 10, 20, 30)
		for _, op := range ops(insert(5), remove(10), put(5), take()) {
			s.Do(op)
		}
		if !slices.Equal(b, keys(10, 20, 30)) {
			t.Errorf("shape %d: what was handed out has changed: %v", shape, b)
		}
	}
}

func TestItemsOfNoneAreNone(t *testing.T) {
	for _, shape := range shapes() {
		s := with(t, shape, 4)
		s.Do(remove(4))
		s.Do(take())
		if l := s.Items(); l != nil {
			t.Errorf("shape %d: %v of capacity %d", shape, l, cap(l))
		}
	}
}

// stirred does what changes a meaning's items at each place.
func stirred(s *Spec) {
	for _, op := range ops(remove(10), insert(5), insert(25), remove(30), take(), put(5), put(6), take()) {
		s.Do(op)
	}
}

func TestCopyIsForItself(t *testing.T) {
	for _, shape := range shapes() {
		for _, items := range [][]int{nil, {10}, {10, 20, 30}, {10, 20, 30, 40, 50}} {
			s := with(t, shape, items...)
			c := s.Copy()
			want(t, c, shape, items...)
			stirred(s)
			want(t, c, shape, items...)
			s = with(t, shape, items...)
			c = s.Copy()
			stirred(c)
			want(t, s, shape, items...)
			c.Shape = 0
			want(t, s, shape, items...)
		}
	}
}

func TestCopiesGoOn(t *testing.T) {
	step(t, with(t, api.List, 1, 3).Copy(), insert(2), yes(), 1, 2, 3)
	step(t, with(t, api.Hash, 1, 3).Copy(), remove(1), yes(), 3)
	step(t, with(t, api.Queue, 1, 3).Copy(), put(2), yes(), 1, 3, 2)
	step(t, with(t, api.Stack, 1, 3).Copy(), put(2), yes(), 2, 1, 3)
}

func TestSame(t *testing.T) {
	for _, shape := range shapes() {
		for i, a := range [][]int{nil, {1}, {2}, {1, 2}, {1, 3}, {1, 2, 3}, {2, 3}} {
			for j, b := range [][]int{nil, {1}, {2}, {1, 2}, {1, 3}, {1, 2, 3}, {2, 3}} {
				x, y := with(t, shape, a...), with(t, shape, b...)
				if x.Same(y) != (i == j) {
					t.Errorf("shape %d: %v and %v: %v", shape, a, b, x.Same(y))
				}
			}
			x := with(t, shape, a...)
			if !x.Same(x) || !x.Same(x.Copy()) || !x.Copy().Same(x) {
				t.Errorf("shape %d: %v isn't its own", shape, a)
			}
			if x.Same(nil) {
				t.Errorf("shape %d: %v is nil", shape, a)
			}
		}
	}
}

func TestSameOfOtherShapes(t *testing.T) {
	for _, a := range shapes() {
		for _, b := range shapes() {
			for _, items := range [][]int{nil, {4}, {4, 5}} {
				if with(t, a, items...).Same(with(t, b, items...)) != (a == b) {
					t.Errorf("shapes %d and %d: %v", a, b, items)
				}
			}
		}
	}
}

func TestSameOfOtherOrders(t *testing.T) {
	for _, shape := range []int{api.Queue, api.Stack} {
		if with(t, shape, 1, 2).Same(with(t, shape, 2, 1)) || with(t, shape, 1, 1, 2).Same(with(t, shape, 1, 2, 1)) {
			t.Errorf("shape %d: an order doesn't count", shape)
		}
	}
	if !made(t, api.List, insert(1), insert(2)).Same(made(t, api.List, insert(2), insert(1))) {
		t.Error("a set's items hang on how they came")
	}
}

// Nothing of how the items came is seen: not where they stood ahead of it.
func TestSameBehindOtherWays(t *testing.T) {
	if !made(t, api.Queue, put(1), take()).Same(made(t, api.Queue)) ||
		!made(t, api.Queue, put(1), put(2), take()).Same(made(t, api.Queue, put(2))) ||
		!made(t, api.List, insert(1), insert(2), remove(1)).Same(made(t, api.List, insert(2))) {
		t.Error("what has been counts")
	}
}

func TestPlay(t *testing.T) {
	for _, c := range []struct {
		shape int
		ops   []api.Op
		told  []api.Res
		items []int
	}{
		{api.List, nil, nil, nil},
		{api.Hash, nil, nil, nil},
		{api.Queue, nil, nil, nil},
		{api.Stack, nil, nil, nil},
		{api.List, ops(insert(3)), []api.Res{yes()}, keys(3)},
		{api.Hash, ops(remove(3)), []api.Res{no()}, nil},
		{api.Queue, ops(take()), []api.Res{no()}, nil},
		{api.Stack, ops(put(0)), []api.Res{yes()}, keys(0)},
		{api.Queue, ops(put(4), put(9), take()), []api.Res{yes(), yes(), took(4)}, keys(9)},
		{api.Stack, ops(put(4), put(9), take()), []api.Res{yes(), yes(), took(9)}, keys(4)},
		{api.Stack, ops(take(), put(1), put(2), take()), []api.Res{no(), yes(), yes(), took(2)}, keys(1)},
		{api.List, ops(insert(5), insert(5), insert(2), has(2), remove(3), remove(5)), []api.Res{yes(), no(), yes(), yes(), no(), yes()}, keys(2)},
		{api.Hash, ops(insert(5), has(5), remove(5), has(5), insert(4), insert(0)), []api.Res{yes(), yes(), yes(), no(), yes(), yes()}, keys(0, 4)},
	} {
		l, s, e := Play(c.shape, c.ops...)
		if e != api.OK || s == nil || !slices.Equal(l, c.told) {
			t.Errorf("Play(%d, %v) = %v, %v, %v", c.shape, c.ops, l, s, e)
			continue
		}
		want(t, s, c.shape, c.items...)
	}
}

func refused(t *testing.T, shape int, l ...api.Op) {
	t.Helper()
	if r, s, e := Play(shape, l...); r != nil || s != nil || e != api.ErrArg {
		t.Errorf("Play(%d, %v) = %v, %v, %v", shape, l, r, s, e)
	}
}

func TestPlayOfNoShape(t *testing.T) {
	for _, shape := range noShape() {
		refused(t, shape)
		refused(t, shape, insert(1))
		refused(t, shape, put(1), take())
	}
}

func TestPlayOfWrongOperations(t *testing.T) {
	for _, shape := range shapes() {
		right := ops(insert(1), has(1), remove(1))
		if shape == api.Queue || shape == api.Stack {
			right = ops(put(1), put(2), take())
		}
		for _, op := range wrong(shape) {
			refused(t, shape, op)
			for at := range len(right) + 1 {
				refused(t, shape, slices.Insert(slices.Clone(right), at, op)...)
			}
		}
	}
}

func TestPlayWritesIntoNoArgument(t *testing.T) {
	l := ops(put(4), put(9), take(), put(1), take(), take(), take())
	kept := slices.Clone(l)
	a, s, _ := Play(api.Queue, l...)
	if !slices.Equal(l, kept) {
		t.Error("written into:", l)
	}
	b, z, _ := Play(api.Queue, l...)
	l[0].Key, a[0].Val = 77, 77
	s.Do(put(6))
	if b[0] != yes() || !slices.Equal(a[1:], b[1:]) {
		t.Error("memory is shared:", a, b)
	}
	want(t, z, api.Queue)
	Play(api.Queue, append(l, insert(1))...)
	if !slices.Equal(l[1:], kept[1:]) {
		t.Error("written into:", l)
	}
}
