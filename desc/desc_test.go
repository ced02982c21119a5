package desc

import (
	"math"
	"slices"
	"testing"

	"sherpa/api"
)

// set names a field, and how a descriptor gets a number there.
type set struct {
	name string
	at   int
	most int
	with func(n int) Desc
}

func sets() []set {
	return []set{
		{"attempt", 0, 4095, func(n int) Desc { return Desc{Att: n} }},
		{"address", 12, 511, func(n int) Desc { return Desc{Addr: n} }},
		{"version", 21, 262143, func(n int) Desc { return Desc{Ver: n} }},
		{"next", 39, 511, func(n int) Desc { return Desc{Next: n} }},
		{"status", 49, 7, func(n int) Desc { return Desc{Status: n} }},
		{"value", 52, 1023, func(n int) Desc { return Desc{Val: n} }},
	}
}

// some is a descriptor with another number in each field.
func some() Desc {
	return Desc{Att: 1, Addr: 2, Ver: 3, Next: 4, Mark: true, Status: Won, Val: 5}
}

// full is a descriptor with the greatest number in each field.
func full() Desc {
	return Desc{Att: 4095, Addr: 511, Ver: 262143, Next: 511, Mark: true, Status: 7, Val: 1023}
}

// numbered is what may stand for a status: all there are, those beyond, and those that don't fit.
func numbered() []int { return []int{math.MinInt, -1, 0, 1, 2, 3, 4, 5, 6, 7, 8, 9, 11, math.MaxInt} }

func TestStatusesAreThoseOfTheDocument(t *testing.T) {
	if l := []int{Idle, Empty, Proposed, Won, Lost, Done}; !slices.Equal(l, []int{0, 1, 2, 3, 4, 5}) {
		t.Error(l)
	}
}

func TestPutOrdinary(t *testing.T) {
	for _, c := range []struct {
		d    Desc
		want uint64
	}{
		{Desc{}, 0},
		{Desc{Att: 1, Status: Empty}, 1 + 1<<49},
		{Desc{Mark: true}, 1 << 48},
		{some(), 1 + 2<<12 + 3<<21 + 4<<39 + 1<<48 + 3<<49 + 5<<52},
		{Desc{Att: 9, Addr: 200, Ver: 77, Next: 13, Status: Proposed, Val: 999}, 9 + 200<<12 + 77<<21 + 13<<39 + 2<<49 + 999<<52},
		{Desc{Att: 2, Next: 1, Status: Done}, 2 + 1<<39 + 5<<49},
		{full(), 1<<62 - 1},
	} {
		if x, e := Put(c.d); x != c.want || e != api.OK {
			t.Errorf("Put(%+v) = %d, %d, want %d", c.d, x, e, c.want)
		}
		if d := Get(c.want); d != c.d {
			t.Errorf("Get(%d) = %+v, want %+v", c.want, d, c.d)
		}
	}
}

func TestPutEachNumberOfAField(t *testing.T) {
	for _, s := range sets() {
		for n := 0; n <= s.most; n++ {
			x, e := Put(s.with(n))
			if x != uint64(n)<<s.at || e != api.OK {
				t.Fatalf("%s %d: Put = %d, %d", s.name, n, x, e)
			}
			if d := Get(x); d != s.with(n) {
				t.Fatalf("%s %d: Get = %+v", s.name, n, d)
			}
		}
	}
}

func TestPutRefusesWhatDoesNotFit(t *testing.T) {
	for _, s := range sets() {
		for _, n := range []int{-1, s.most + 1, 2 * (s.most + 1), 1 << 32, 1 << 62, math.MaxInt, math.MinInt} {
			if x, e := Put(s.with(n)); x != 0 || e != api.ErrRange {
				t.Errorf("%s %d: Put = %d, %d, want 0, ErrRange", s.name, n, x, e)
			}
		}
	}
	d := full()
	d.Val = 1024
	if x, e := Put(d); x != 0 || e != api.ErrRange {
		t.Errorf("Put(%+v) = %d, %d, want 0, ErrRange", d, x, e)
	}
}

func edges(most int) []int { return []int{0, 1, most / 2, most} }

func TestUnlikeDescriptorsHaveUnlikeBits(t *testing.T) {
	seen := map[uint64]Desc{}
	check := func(d Desc) {
		x, e := Put(d)
		if y, ok := seen[x]; ok {
			t.Fatalf("%+v and %+v are both %d", y, d, x)
		}
		seen[x] = d
		if e != api.OK || x >= 1<<62 || Get(x) != d {
			t.Fatalf("%+v: Put = %d, %d, Get = %+v", d, x, e, Get(x))
		}
	}
	for _, att := range edges(4095) {
		for _, addr := range edges(511) {
			for _, ver := range edges(262143) {
				for _, next := range edges(511) {
					for status := range 8 {
						for _, val := range edges(1023) {
							check(Desc{att, addr, ver, next, false, status, val})
							check(Desc{att, addr, ver, next, true, status, val})
						}
					}
				}
			}
		}
	}
}

func TestGetGoesOverOtherBits(t *testing.T) {
	x, _ := Put(some())
	for _, above := range []uint64{1 << 62, 1 << 63, 3 << 62} {
		if d := Get(x | above); d != some() {
			t.Errorf("with %d: %+v", above, d)
		}
		if d := Get(above); d != (Desc{}) {
			t.Errorf("%d alone: %+v", above, d)
		}
	}
	if d := Get(math.MaxUint64); d != full() {
		t.Errorf("all bits: %+v", d)
	}
}

func TestPending(t *testing.T) {
	for _, s := range numbered() {
		for _, d := range []Desc{{}, some(), full()} {
			d.Status = s
			if d.Pending() != (s >= 1 && s <= 4) {
				t.Errorf("%+v: %v", d, d.Pending())
			}
		}
	}
}

func TestNext1(t *testing.T) {
	for _, c := range []struct{ att, want int }{
		{0, 1}, {1, 2}, {4093, 4094}, {4094, 4095}, {4095, 0},
		{4096, 4097}, {-1, 0}, {-2, -1}, {2*4096 - 1, 2 * 4096},
	} {
		for _, d := range []Desc{{}, some(), full()} {
			d.Att = c.att
			if n := d.Next1(); n != (Desc{Att: c.want, Status: Empty}) {
				t.Errorf("behind %+v: %+v", d, n)
			}
		}
	}
}

func TestWith(t *testing.T) {
	d := some()
	for _, s := range numbered() {
		want := Desc{Att: 1, Addr: 2, Ver: 3, Next: 4, Mark: true, Status: s, Val: 5}
		if y := d.With(s); y != want {
			t.Errorf("With(%d) = %+v", s, y)
		}
	}
	if d != some() {
		t.Errorf("the descriptor has changed: %+v", d)
	}
}

func TestEnded(t *testing.T) {
	for _, c := range []struct {
		r    api.Res
		want Desc
	}{
		{api.Res{}, Desc{Att: 4095, Status: Done}},
		{api.Res{Ok: true}, Desc{Att: 4095, Mark: true, Status: Done}},
		{api.Res{Val: 7}, Desc{Att: 4095, Status: Done, Val: 7}},
		{api.Res{Ok: true, Val: 1023}, Desc{Att: 4095, Mark: true, Status: Done, Val: 1023}},
		{api.Res{Val: 1024}, Desc{Att: 4095, Status: Done, Val: 1024}},
		{api.Res{Code: api.ErrFull}, Desc{Att: 4095, Next: 1, Status: Done}},
		{api.Res{Code: api.ErrFull, Ok: true, Val: 3}, Desc{Att: 4095, Next: 1, Mark: true, Status: Done, Val: 3}},
	} {
		if d := full().Ended(c.r); d != c.want {
			t.Errorf("Ended(%+v) = %+v, want %+v", c.r, d, c.want)
		}
	}
	if d := (Desc{}).Ended(api.Res{}); d != (Desc{Status: Done}) {
		t.Errorf("of the first attempt: %+v", d)
	}
}

func TestEndedOfOtherErrorsHasNoNext(t *testing.T) {
	for _, e := range []api.Errno{api.OK, api.ErrArg, api.ErrRange, api.ErrForm, api.ErrNone, api.ErrLong, 7, -1} {
		if d := some().Ended(api.Res{Code: e, Ok: true, Val: 2}); d != (Desc{Att: 1, Mark: true, Status: Done, Val: 2}) {
			t.Errorf("error %d: %+v", e, d)
		}
	}
}

func TestResOfOneThatIsNotDone(t *testing.T) {
	for _, s := range numbered() {
		for _, next := range []int{0, 1, 2, 511} {
			d := Desc{Next: next, Mark: true, Status: s, Val: 6}
			if r := d.Res(); s != 5 && r != (api.Res{Code: api.ErrNone}) {
				t.Errorf("%+v: %+v", d, r)
			}
		}
	}
}

func TestResOfOneThatIsDone(t *testing.T) {
	for _, mark := range []bool{false, true} {
		for _, val := range []int{0, 1, 999, 1023, 1024, -1} {
			for _, next := range []int{-1, 0, 2, 3, 511, 512} {
				d := Desc{Att: 8, Addr: 7, Ver: 6, Next: next, Mark: mark, Status: Done, Val: val}
				if r := d.Res(); r != (api.Res{Ok: mark, Val: val}) {
					t.Errorf("%+v: %+v", d, r)
				}
			}
			d := Desc{Next: 1, Mark: mark, Status: Done, Val: val}
			if r := d.Res(); r != (api.Res{Code: api.ErrFull}) {
				t.Errorf("%+v: %+v", d, r)
			}
		}
	}
}

func TestResTellsWhatEndedWasGiven(t *testing.T) {
	for _, r := range []api.Res{{}, {Ok: true}, {Ok: true, Val: 999}, {Val: 1023}, {Code: api.ErrFull}} {
		x, e := Put(some().Ended(r))
		if y := Get(x).Res(); y != r || e != api.OK {
			t.Errorf("%+v: %+v, %d", r, y, e)
		}
	}
}

func TestIs(t *testing.T) {
	for _, s := range numbered() {
		d := some().With(s)
		if d.Is() || d.Is([]int{}...) {
			t.Errorf("status %d is one of none", s)
		}
		for _, o := range numbered() {
			if d.Is(o) != (s == o) {
				t.Errorf("status %d, asked %d: %v", s, o, d.Is(o))
			}
		}
		if !d.Is(s, 10) || !d.Is(10, s) || !d.Is(10, s, 12) || !d.Is(s, s) || d.Is(10, 12, 13) {
			t.Errorf("status %d among others", s)
		}
	}
}

func TestIsLeavesTheList(t *testing.T) {
	l := []int{Done, Idle, Won}
	if !some().Is(l...) || !slices.Equal(l, []int{Done, Idle, Won}) {
		t.Errorf("the statuses have changed: %v", l)
	}
}
