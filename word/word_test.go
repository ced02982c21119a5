package word

import (
	"math"
	"slices"
	"testing"

	"sherpa/api"
)

// set names a field, and how a word gets a number there.
type set struct {
	name string
	at   int
	most int
	with func(n int) Word
}

func sets() []set {
	return []set{
		{"key", 0, 1023, func(n int) Word { return Word{Key: n} }},
		{"next", 10, 511, func(n int) Word { return Word{Next: n} }},
		{"claim", 20, 31, func(n int) Word { return Word{Claim: n} }},
		{"version", 25, 262143, func(n int) Word { return Word{Ver: n} }},
	}
}

func TestPutOrdinary(t *testing.T) {
	for _, c := range []struct {
		w    Word
		want uint64
	}{
		{Word{}, 0},
		{Word{Key: 5, Next: 1}, 1029},
		{Word{Mark: true}, 1 << 19},
		{Word{Key: 1, Next: 2, Mark: true, Claim: 3, Ver: 4}, 1 + 2<<10 + 1<<19 + 3<<20 + 4<<25},
		{Word{Key: 999, Next: 200, Claim: 8, Ver: 77}, 999 + 200<<10 + 8<<20 + 77<<25},
		{Word{Key: 1023, Next: 511, Mark: true, Claim: 31, Ver: 262143}, 1<<43 - 1},
	} {
		if x, e := Put(c.w); x != c.want || e != api.OK {
			t.Errorf("Put(%+v) = %d, %d, want %d", c.w, x, e, c.want)
		}
	}
}

func TestPutEachNumberOfAField(t *testing.T) {
	for _, s := range sets() {
		for n := 0; n <= s.most; n++ {
			x, e := Put(s.with(n))
			if x != uint64(n)<<s.at || e != api.OK {
				t.Fatalf("%s %d: Put = %d, %d", s.name, n, x, e)
			}
			if w := Get(x); w != s.with(n) {
				t.Fatalf("%s %d: Get = %+v", s.name, n, w)
			}
		}
	}
}

func TestPutRefusesWhatDoesNotFit(t *testing.T) {
	for _, s := range sets() {
		for _, n := range []int{-1, s.most + 1, 2 * (s.most + 1), 1 << 32, 1 << 43, math.MaxInt, math.MinInt} {
			if x, e := Put(s.with(n)); x != 0 || e != api.ErrRange {
				t.Errorf("%s %d: Put = %d, %d, want 0, ErrRange", s.name, n, x, e)
			}
		}
	}
	full := Word{Key: 1023, Next: 511, Mark: true, Claim: 31, Ver: 262144}
	if x, e := Put(full); x != 0 || e != api.ErrRange {
		t.Errorf("Put(%+v) = %d, %d, want 0, ErrRange", full, x, e)
	}
}

func edges(most int) []int { return []int{0, 1, most / 2, most - 1, most} }

func TestUnlikeWordsHaveUnlikeBits(t *testing.T) {
	seen := map[uint64]Word{}
	for _, key := range edges(1023) {
		for _, next := range edges(511) {
			for _, mark := range []bool{false, true} {
				for _, claim := range edges(31) {
					for _, ver := range edges(262143) {
						w := Word{key, next, mark, claim, ver}
						x, e := Put(w)
						if y, ok := seen[x]; ok {
							t.Fatalf("%+v and %+v are both %d", y, w, x)
						}
						seen[x] = w
						if e != api.OK || Get(x) != w || !Right(x) {
							t.Fatalf("%+v: Put = %d, %d, Get = %+v, Right = %v", w, x, e, Get(x), Right(x))
						}
					}
				}
			}
		}
	}
}

func TestGetGoesOverOtherBits(t *testing.T) {
	w := Word{Key: 1, Next: 2, Mark: true, Claim: 3, Ver: 4}
	x, _ := Put(w)
	for i := 43; i < 64; i++ {
		if y := Get(x | 1<<i); y != w {
			t.Errorf("bit %d: %+v", i, y)
		}
		if y := Get(1 << i); y != (Word{}) {
			t.Errorf("bit %d alone: %+v", i, y)
		}
	}
	full := Word{Key: 1023, Next: 511, Mark: true, Claim: 31, Ver: 262143}
	if y := Get(math.MaxUint64); y != full {
		t.Errorf("all bits: %+v", y)
	}
}

func TestRight(t *testing.T) {
	for i := range 64 {
		if Right(1<<i) != (i < 43) {
			t.Errorf("Right of bit %d: %v", i, Right(1<<i))
		}
	}
	if !Right(0) || !Right(1<<43-1) || Right(1<<43) || Right(1<<43|1029) || Right(math.MaxUint64) {
		t.Error("Right at its edges")
	}
}

func TestLink(t *testing.T) {
	w := Word{Key: 1, Next: 2, Mark: true, Claim: 3, Ver: 4}
	for _, next := range []int{0, 2, 7, 511, 512, -1} {
		want := Word{Key: 1, Next: next, Mark: true, Claim: 3, Ver: 5}
		if y := w.Link(next); y != want {
			t.Errorf("Link(%d) = %+v", next, y)
		}
	}
	if w != (Word{Key: 1, Next: 2, Mark: true, Claim: 3, Ver: 4}) {
		t.Errorf("the word has changed: %+v", w)
	}
}

func TestMarked(t *testing.T) {
	for _, mark := range []bool{false, true} {
		w := Word{Key: 9, Next: 8, Mark: mark, Claim: 7, Ver: 6}
		if y := w.Marked(); y != (Word{Key: 9, Next: 8, Mark: true, Claim: 7, Ver: 7}) {
			t.Errorf("Marked of %+v = %+v", w, y)
		}
	}
}

func TestClaimed(t *testing.T) {
	w := Word{Key: 1, Next: 2, Mark: true, Claim: 3, Ver: 4}
	for _, c := range []struct {
		by, next int
		mark     bool
	}{{0, 9, false}, {7, 0, true}, {30, 511, false}, {31, 512, true}, {-1, -1, false}} {
		want := Word{Key: 1, Next: c.next, Mark: c.mark, Claim: c.by + 1, Ver: 4}
		if y := w.Claimed(c.by, c.next, c.mark); y != want {
			t.Errorf("Claimed(%d, %d, %v) = %+v", c.by, c.next, c.mark, y)
		}
	}
	last := Word{Ver: 262143}
	if y := last.Claimed(0, 0, false); y != (Word{Claim: 1, Ver: 262143}) {
		t.Errorf("Claimed of the last version = %+v", y)
	}
}

func TestFree(t *testing.T) {
	for _, claim := range []int{0, 1, 31, 32} {
		w := Word{Key: 1, Next: 2, Mark: true, Claim: claim, Ver: 4}
		if y := w.Free(); y != (Word{Key: 1, Next: 2, Mark: true, Ver: 5}) {
			t.Errorf("Free of %+v = %+v", w, y)
		}
	}
	if y := (Word{Next: 2, Claim: 1}).Free(); y != (Word{Next: 2, Ver: 1}) {
		t.Errorf("Free of an unmarked one = %+v", y)
	}
}

func TestVersionGoesOn(t *testing.T) {
	for _, c := range []struct{ ver, want int }{
		{0, 1}, {262141, 262142}, {262142, 262143}, {262143, 0},
		{262144, 262145}, {-1, 0}, {-2, -1}, {2*262144 - 1, 2 * 262144},
	} {
		w := Word{Key: 3, Ver: c.ver}
		link, marked, free := w.Link(0).Ver, w.Marked().Ver, w.Free().Ver
		if link != c.want || marked != c.want || free != c.want {
			t.Errorf("behind %d: Link %d, Marked %d, Free %d, want %d", c.ver, link, marked, free, c.want)
		}
	}
}

func TestBits(t *testing.T) {
	for _, c := range []struct{ widths, want []int }{
		{nil, []int{0}},
		{[]int{}, []int{0}},
		{[]int{0}, []int{0, 0}},
		{[]int{7}, []int{0, 7}},
		{[]int{-1}, []int{0, 0}},
		{[]int{math.MinInt, 4}, []int{0, 0, 4}},
		{[]int{10, -3, 9}, []int{0, 10, 10, 19}},
		{[]int{5, 0, 5}, []int{0, 5, 5, 10}},
		{[]int{10, 9, 1, 5, 18}, []int{0, 10, 19, 20, 25, 43}},
		{[]int{64, 64}, []int{0, 64, 128}},
	} {
		if l := Bits(c.widths...); !slices.Equal(l, c.want) {
			t.Errorf("Bits(%v) = %v, want %v", c.widths, l, c.want)
		}
	}
}

func TestBitsSharesNothing(t *testing.T) {
	widths := []int{3, -4, 5}
	l := Bits(widths...)
	if !slices.Equal(widths, []int{3, -4, 5}) {
		t.Errorf("the widths have changed: %v", widths)
	}
	for i := range l {
		l[i] = 99
	}
	if !slices.Equal(widths, []int{3, -4, 5}) || !slices.Equal(Bits(widths...), []int{0, 3, 3, 8}) {
		t.Error("what is answered shares memory")
	}
}
