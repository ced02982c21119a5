package task

import (
	"math"
	"slices"
	"testing"

	"sherpa/api"
)

// shapes and kinds are what may stand for one: all there are, and those beyond.
func shapes() []int { return []int{math.MinInt, -4, -1, 0, 1, 2, 3, 4, 5, 6, 7, 8, 9, 12, math.MaxInt} }

func kindsTried() []int {
	return []int{math.MinInt, -5, -1, 0, 1, 2, 3, 4, 5, 6, 7, 8, 9, 13, math.MaxInt}
}

// keys is some that there are, with those at the edges, and some that there aren't.
func keys() []int {
	return []int{math.MinInt, -1000, -64, -4, -1, 0, 1, 2, 3, 4, 5, 6, 7, 8, 63, 64, 500, 512, 998, 999, 1000, 1001, 1023, 1024, 1025, 1 << 58, math.MaxInt}
}

// may tells whether an operation is one of a shape, by the document's list.
func may(shape, kind, key int) bool {
	of := [5]string{api.List: "123", api.Hash: "123", api.Queue: "45", api.Stack: "45"}
	if shape < 0 || shape > 4 || kind < 0 || kind > 9 || key < 0 || key > 999 {
		return false
	}
	for _, c := range of[shape] {
		if int(c-'0') == kind {
			return kind != api.Take || key == 0
		}
	}
	return false
}

func of(shape, kind, key int) Task { return Task{Shape: shape, Op: api.Op{Kind: kind, Key: key}} }

// each calls f with every mixture of shapes, kinds and keys.
func each(f func(shape, kind, key int)) {
	for _, shape := range shapes() {
		for _, kind := range kindsTried() {
			for _, key := range keys() {
				f(shape, kind, key)
			}
		}
	}
}

func TestRightOrdinary(t *testing.T) {
	for _, c := range []struct {
		shape, kind, key int
		want             bool
	}{
		{api.List, api.Insert, 5, true},
		{api.List, api.Delete, 5, true},
		{api.List, api.Has, 5, true},
		{api.List, api.Put, 5, false},
		{api.List, api.Take, 0, false},
		{api.Hash, api.Insert, 5, true},
		{api.Hash, api.Delete, 5, true},
		{api.Hash, api.Has, 5, true},
		{api.Hash, api.Put, 5, false},
		{api.Hash, api.Take, 0, false},
		{api.Queue, api.Insert, 5, false},
		{api.Queue, api.Delete, 5, false},
		{api.Queue, api.Has, 5, false},
		{api.Queue, api.Put, 5, true},
		{api.Queue, api.Take, 0, true},
		{api.Stack, api.Insert, 5, false},
		{api.Stack, api.Delete, 5, false},
		{api.Stack, api.Has, 5, false},
		{api.Stack, api.Put, 5, true},
		{api.Stack, api.Take, 0, true},
	} {
		if Right(c.shape, api.Op{Kind: c.kind, Key: c.key}) != c.want {
			t.Errorf("shape %d, kind %d, key %d: not %v", c.shape, c.kind, c.key, c.want)
		}
	}
}

func TestRightAtTheKeysEdges(t *testing.T) {
	for _, c := range []struct{ shape, kind int }{
		{api.List, api.Insert}, {api.List, api.Delete}, {api.List, api.Has},
		{api.Hash, api.Insert}, {api.Hash, api.Delete}, {api.Hash, api.Has},
		{api.Queue, api.Put}, {api.Stack, api.Put},
	} {
		for key, want := range map[int]bool{math.MinInt: false, -1: false, 0: true, 1: true, 998: true, 999: true, 1000: false, 1024: false, math.MaxInt: false} {
			if Right(c.shape, api.Op{Kind: c.kind, Key: key}) != want {
				t.Errorf("shape %d, kind %d, key %d: not %v", c.shape, c.kind, key, want)
			}
		}
	}
	for _, shape := range []int{api.Queue, api.Stack} {
		for _, key := range keys() {
			if Right(shape, api.Op{Kind: api.Take, Key: key}) != (key == 0) {
				t.Errorf("shape %d: take with key %d", shape, key)
			}
		}
	}
}

func TestRightOfEveryMixture(t *testing.T) {
	each(func(shape, kind, key int) {
		if Right(shape, api.Op{Kind: kind, Key: key}) != may(shape, kind, key) {
			t.Errorf("shape %d, kind %d, key %d: not %v", shape, kind, key, may(shape, kind, key))
		}
	})
}

func TestPutOrdinary(t *testing.T) {
	for _, c := range []struct {
		t    Task
		want uint64
	}{
		{of(api.Hash, api.Delete, 7), 2 + 16 + 448},
		{of(api.List, api.Insert, 0), 1 + 1<<3},
		{of(api.List, api.Has, 1), 1 + 3<<3 + 1<<6},
		{of(api.List, api.Insert, 999), 1 + 1<<3 + 999<<6},
		{of(api.Hash, api.Has, 500), 2 + 3<<3 + 500<<6},
		{of(api.Queue, api.Put, 64), 3 + 4<<3 + 64<<6},
		{of(api.Queue, api.Take, 0), 3 + 5<<3},
		{of(api.Stack, api.Put, 999), 4 + 4<<3 + 999<<6},
		{of(api.Stack, api.Take, 0), 4 + 5<<3},
	} {
		if x, e := Put(c.t); x != c.want || e != api.OK {
			t.Errorf("Put(%+v) = %d, %d, want %d", c.t, x, e, c.want)
		}
		if y, e := Get(c.want); y != c.t || e != api.OK {
			t.Errorf("Get(%d) = %+v, %d, want %+v", c.want, y, e, c.t)
		}
	}
}

func TestPutOfEveryMixture(t *testing.T) {
	each(func(shape, kind, key int) {
		want, err := uint64(0), api.ErrArg
		if may(shape, kind, key) {
			want, err = uint64(shape+8*kind+64*key), api.OK
		}
		if x, e := Put(of(shape, kind, key)); x != want || e != err {
			t.Errorf("shape %d, kind %d, key %d: %d, %d, want %d, %d", shape, kind, key, x, e, want, err)
		}
	})
}

func TestGetOfAllThatHasSixteenBits(t *testing.T) {
	right := 0
	for x := range uint64(1 << 16) {
		shape, kind, key := int(x%8), int(x/8%8), int(x/64)
		want, err := Task{}, api.ErrForm
		if may(shape, kind, key) {
			want, err = of(shape, kind, key), api.OK
			right++
		}
		y, e := Get(x)
		if y != want || e != err {
			t.Fatalf("%d: %+v, %d, want %+v, %d", x, y, e, want, err)
		}
		if back, f := Put(y); e == api.OK && (back != x || f != api.OK) {
			t.Fatalf("%d: %d, %d", x, back, f)
		}
	}
	// Three kinds of each set with a key, one of the others, and a Take.
	if right != 2*3*1000+2*1000+2 {
		t.Errorf("%d right tasks", right)
	}
}

func TestGetRefusesBitsAboveTheSixteen(t *testing.T) {
	for _, y := range []Task{of(api.List, api.Insert, 0), of(api.Hash, api.Delete, 7), of(api.Queue, api.Put, 999), of(api.Stack, api.Take, 0)} {
		x, _ := Put(y)
		for i := 16; i < 64; i++ {
			if z, e := Get(x | 1<<i); z != (Task{}) || e != api.ErrForm {
				t.Errorf("%+v and bit %d: %+v, %d", y, i, z, e)
			}
		}
		if z, e := Get(x | (math.MaxUint64 - 1<<16 + 1)); z != (Task{}) || e != api.ErrForm {
			t.Errorf("%+v and all bits above: %+v, %d", y, z, e)
		}
	}
}

func TestGetRefusesWhatIsNoTasks(t *testing.T) {
	for _, x := range []uint64{
		0, 1 << 3, 5 | 1<<3, 6 | 1<<3, 7 | 1<<3, 5 | 4<<3, 6 | 5<<3, 7 | 5<<3, // no shape
		1, 2, 3, 4, 1 | 6<<3, 2 | 7<<3, 3 | 6<<3, 4 | 7<<3, // no kind
		1 | 4<<3, 2 | 5<<3, 3 | 1<<3, 4 | 2<<3, 4 | 3<<3, // another shape's kind
		1 | 1<<3 | 1000<<6, 2 | 2<<3 | 1001<<6, 3 | 4<<3 | 1023<<6, 4 | 4<<3 | 1000<<6, // no key
		3 | 5<<3 | 1<<6, 4 | 5<<3 | 1<<6, 3 | 5<<3 | 999<<6, 4 | 5<<3 | 512<<6, // a Take with a key
		math.MaxUint64, 1 << 63, 1 << 16, 1<<16 | 1 | 1<<3,
	} {
		if y, e := Get(x); y != (Task{}) || e != api.ErrForm {
			t.Errorf("Get(%d) = %+v, %d, want ErrForm", x, y, e)
		}
	}
}

func TestLinksMarksPops(t *testing.T) {
	for _, c := range []struct {
		shape, kind        int
		links, marks, pops bool
	}{
		{api.List, api.Insert, true, false, false},
		{api.List, api.Delete, false, true, false},
		{api.List, api.Has, false, false, false},
		{api.Hash, api.Insert, true, false, false},
		{api.Hash, api.Delete, false, true, false},
		{api.Hash, api.Has, false, false, false},
		{api.Queue, api.Put, true, false, false},
		{api.Queue, api.Take, false, true, false},
		{api.Stack, api.Put, true, false, false},
		{api.Stack, api.Take, false, false, true},
	} {
		for _, key := range []int{0, 5, 999} {
			y := of(c.shape, c.kind, key)
			if y.Links() != c.links || y.Marks() != c.marks || y.Pops() != c.pops {
				t.Errorf("%+v: links %v, marks %v, pops %v", y, y.Links(), y.Marks(), y.Pops())
			}
		}
	}
}

// Layer 16 says that a task that isn't right links, or pops, by its shape and kind likewise.
func TestLinksMarksPopsGoByShapeAndKindAlone(t *testing.T) {
	each(func(shape, kind, key int) {
		y := of(shape, kind, key)
		if y.Links() != (kind == 1 || kind == 4) {
			t.Errorf("%+v: links %v", y, y.Links())
		}
		if y.Marks() != (shape == 1 && kind == 2 || shape == 2 && kind == 2 || shape == 3 && kind == 5) {
			t.Errorf("%+v: marks %v", y, y.Marks())
		}
		if y.Pops() != (shape == 4 && kind == 5) {
			t.Errorf("%+v: pops %v", y, y.Pops())
		}
	})
}

func TestPlaceOfSets(t *testing.T) {
	for _, kind := range []int{api.Insert, api.Delete, api.Has} {
		for key := range api.MaxKey + 1 {
			if p := of(api.List, kind, key).Place(); p != (Place{Head: 0, Key: key}) {
				t.Fatalf("List, kind %d, key %d: %+v", kind, key, p)
			}
			if p := of(api.Hash, kind, key).Place(); p != (Place{Head: key & 3, Key: key}) {
				t.Fatalf("Hash, kind %d, key %d: %+v", kind, key, p)
			}
		}
	}
	for key, head := range map[int]int{0: 0, 1: 1, 2: 2, 3: 3, 4: 0, 7: 3, 998: 2, 999: 3} {
		if p := of(api.Hash, api.Has, key).Place(); p != (Place{Head: head, Key: key}) {
			t.Errorf("Hash, key %d: %+v", key, p)
		}
	}
}

func TestPlaceOfQueueAndStack(t *testing.T) {
	for _, key := range []int{0, 1, 2, 3, 5, 998, 999} {
		if p := of(api.Queue, api.Put, key).Place(); p != (Place{Head: 0, Key: 1024}) {
			t.Errorf("Put of %d in a Queue: %+v", key, p)
		}
		if p := of(api.Stack, api.Put, key).Place(); p != (Place{Head: 0, Key: -1}) {
			t.Errorf("Put of %d in a Stack: %+v", key, p)
		}
	}
	for _, shape := range []int{api.Queue, api.Stack} {
		if p := of(shape, api.Take, 0).Place(); p != (Place{Head: 0, Key: -1}) {
			t.Errorf("Take of shape %d: %+v", shape, p)
		}
	}
}

func TestPlaceOfWhatIsNotRight(t *testing.T) {
	each(func(shape, kind, key int) {
		want := Place{Key: -1}
		switch {
		case shape == api.List:
			want = Place{Key: key}
		case shape == api.Hash:
			want = Place{Head: key % 4, Key: key}
		case shape == api.Queue && kind == api.Put:
			want = Place{Key: 1024}
		}
		if p := of(shape, kind, key).Place(); p != want {
			t.Errorf("shape %d, kind %d, key %d: %+v, want %+v", shape, kind, key, p, want)
		}
	})
}

func TestOf(t *testing.T) {
	for _, c := range []struct {
		shape int
		ops   []api.Op
		want  []Task
	}{
		{api.List, []api.Op{{Kind: api.Insert, Key: 2}}, []Task{of(1, 1, 2)}},
		{api.List, []api.Op{{Kind: 3, Key: 9}, {Kind: 1, Key: 2}, {Kind: 2, Key: 2}, {Kind: 3, Key: 9}}, []Task{of(1, 3, 9), of(1, 1, 2), of(1, 2, 2), of(1, 3, 9)}},
		{api.Hash, []api.Op{{Kind: 2, Key: 7}, {Kind: 1, Key: 999}}, []Task{of(2, 2, 7), of(2, 1, 999)}},
		{api.Queue, []api.Op{{Kind: 4, Key: 4}, {Kind: 5}}, []Task{of(3, 4, 4), of(3, 5, 0)}},
		{api.Stack, []api.Op{{Kind: 5}, {Kind: 4, Key: 999}, {Kind: 5}}, []Task{of(4, 5, 0), of(4, 4, 999), of(4, 5, 0)}},
	} {
		if l, e := Of(c.shape, c.ops...); !slices.Equal(l, c.want) || e != api.OK {
			t.Errorf("Of(%d, %v) = %v, %d, want %v", c.shape, c.ops, l, e, c.want)
		}
	}
}

func TestOfNone(t *testing.T) {
	for _, shape := range shapes() {
		if l, e := Of(shape); len(l) != 0 || e != api.OK {
			t.Errorf("shape %d: %v, %d", shape, l, e)
		}
		if l, e := Of(shape, []api.Op{}...); len(l) != 0 || e != api.OK {
			t.Errorf("shape %d, an empty list: %v, %d", shape, l, e)
		}
	}
}

func TestOfRefusesOneThatIsNotRightAtEachPlace(t *testing.T) {
	for _, c := range []struct {
		shape       int
		right       api.Op
		notOfTheirs []api.Op
	}{
		{api.List, api.Op{Kind: 1, Key: 5}, []api.Op{{}, {Kind: 4, Key: 5}, {Kind: 5}, {Kind: 1, Key: -1}, {Kind: 2, Key: 1000}, {Kind: 6}, {Kind: -1}}},
		{api.Hash, api.Op{Kind: 2}, []api.Op{{}, {Kind: 4, Key: 5}, {Kind: 5}, {Kind: 3, Key: 1000}}},
		{api.Queue, api.Op{Kind: 5}, []api.Op{{}, {Kind: 1, Key: 5}, {Kind: 5, Key: 1}, {Kind: 4, Key: 1000}}},
		{api.Stack, api.Op{Kind: 4, Key: 999}, []api.Op{{}, {Kind: 3, Key: 5}, {Kind: 5, Key: -1}, {Kind: 4, Key: -1}}},
	} {
		for _, wrong := range c.notOfTheirs {
			for at := range 4 {
				ops := []api.Op{c.right, c.right, c.right, c.right}
				ops[at] = wrong
				if l, e := Of(c.shape, ops...); l != nil || e != api.ErrArg {
					t.Errorf("Of(%d, %v) = %v, %d, want ErrArg", c.shape, ops, l, e)
				}
			}
			if l, e := Of(c.shape, wrong); l != nil || e != api.ErrArg {
				t.Errorf("Of(%d, %v) = %v, %d, want ErrArg", c.shape, wrong, l, e)
			}
		}
	}
	for _, shape := range []int{math.MinInt, -1, 0, 5, 6, 7, math.MaxInt} {
		for _, op := range []api.Op{{Kind: 1, Key: 5}, {Kind: 4, Key: 5}, {Kind: 5}} {
			if l, e := Of(shape, op); l != nil || e != api.ErrArg {
				t.Errorf("Of(%d, %v) = %v, %d, want ErrArg", shape, op, l, e)
			}
		}
	}
}

func TestOfSharesNothing(t *testing.T) {
	ops := make([]api.Op, 2, 9)
	ops[0], ops[1] = api.Op{Kind: 1, Key: 2}, api.Op{Kind: 2, Key: 3}
	given := slices.Clone(ops)
	l, _ := Of(api.List, ops...)
	if !slices.Equal(ops, given) {
		t.Errorf("the operations have changed: %v", ops)
	}
	for i := range l {
		l[i] = of(9, 9, 9)
	}
	l = append(l, of(8, 8, 8))
	if !slices.Equal(ops, given) || ops[:3][2] != (api.Op{}) {
		t.Errorf("the operations change with what was answered: %v", ops[:3])
	}
	l, _ = Of(api.List, ops...)
	ops[0], ops[1] = api.Op{}, api.Op{}
	if !slices.Equal(l, []Task{of(1, 1, 2), of(1, 2, 3)}) {
		t.Errorf("what was answered changes with the operations: %v", l)
	}
	again, _ := Of(api.List, given...)
	l[0] = Task{}
	if again[0] != of(1, 1, 2) {
		t.Errorf("two answers share memory: %v", again)
	}
}

func TestName(t *testing.T) {
	for _, c := range []struct {
		kind int
		want string
	}{
		{api.Insert, "insert"}, {api.Delete, "delete"}, {api.Has, "has"}, {api.Put, "put"}, {api.Take, "take"},
		{0, ""}, {-1, ""}, {-2, ""}, {-5, ""}, {6, ""}, {7, ""}, {8, ""}, {1 << 32, ""}, {1<<32 + 1, ""}, {math.MaxInt, ""}, {math.MinInt, ""},
	} {
		if s := Name(c.kind); s != c.want {
			t.Errorf("Name(%d) = %q, want %q", c.kind, s, c.want)
		}
	}
}
