package clear

import (
	"math"
	"testing"

	"sherpa/api"
	"sherpa/desc"
	"sherpa/mem"
	"sherpa/word"
)

// above is bits that are no word's, aside those that are no descriptor's.
const (
	above = uint64(0x15555)<<43 | 1<<63
	aside = uint64(0b11) << 62
)

// of is a layout of some threads and nodes.
func of(threads, nodes int) mem.Layout { return mem.Layout{Threads: threads, Nodes: nodes} }

// most is the greatest layout.
func most() mem.Layout { return of(api.MaxThreads, api.MaxNodes) }

// bits is a word's.
func bits(t *testing.T, w word.Word) uint64 {
	t.Helper()
	x, e := word.Put(w)
	if e != api.OK {
		t.Fatal(w, e)
	}
	return x
}

// plan is a descriptor's bits.
func plan(t *testing.T, d desc.Desc) uint64 {
	t.Helper()
	x, e := desc.Put(d)
	if e != api.OK {
		t.Fatal(d, e)
	}
	return x
}

// claim is a word at an address, and a thread's descriptor; each with bits that
// aren't its own.
type claim struct {
	l            mem.Layout
	addr, u      int
	w            word.Word
	d            desc.Desc
	above, aside uint64
}

// of1 is a claim of a thread that proposes just this: of a word with a version.
func of1(l mem.Layout, addr, u, ver int) claim {
	return claim{
		l: l, addr: addr, u: u,
		w: word.Word{Key: 40 + u, Next: 2, Claim: u + 1, Ver: ver},
		d: desc.Desc{Att: 7 + u, Addr: addr, Ver: ver, Next: 2, Status: desc.Proposed, Val: 900 + u},
	}
}

// word and desc are the bits in memory.
func (c claim) word(t *testing.T) uint64 { t.Helper(); return bits(t, c.w) | c.above }
func (c claim) desc(t *testing.T) uint64 { t.Helper(); return plan(t, c.d) | c.aside }

// freed and won are the bits that they get.
func (c claim) freed(t *testing.T) uint64 { t.Helper(); return bits(t, c.w.Free()) }
func (c claim) won(t *testing.T) uint64   { t.Helper(); return plan(t, c.d.With(desc.Won)) }

// made is memory with the claim, in which each other word is another one.
func (c claim) made(t *testing.T) *mem.Mem {
	t.Helper()
	words := make([]uint64, c.l.Size())
	for addr := range words {
		words[addr] = uint64(addr+1) * 0x9E3779B97F4A7C15
	}
	words[c.l.Desc(c.u)], words[c.addr] = c.desc(t), c.word(t)
	m, e := mem.New(c.l, words...)
	if e != api.OK {
		t.Fatal(c, e)
	}
	return m
}

// load and cas are actions that are to be seen; lost is a Cas that finds
// another word than the old one.
func load(addr int, is uint64) mem.Action {
	return mem.Action{Kind: mem.Load, Addr: addr, Old: is, New: is, Ok: true}
}

func cas(addr int, is, x uint64) mem.Action {
	return mem.Action{Kind: mem.Cas, Addr: addr, Old: is, New: x, Ok: true}
}

func lost(addr int, is, x uint64) mem.Action {
	return mem.Action{Kind: mem.Cas, Addr: addr, Old: is, New: x}
}

// step does one step, and asks whether it is just this action, and tells the end.
func step(t *testing.T, m *mem.Mem, x mem.Machine, want mem.Action, end bool) {
	t.Helper()
	was := m.Actions()
	ended := x.Step(m)
	if m.Actions() != was+1 || m.Last() != want || ended != end {
		t.Error(m.Actions()-was, "actions, the last one", m.Last(), "want", want, "end", ended)
	}
}

// behind asks whether nothing but these two words has changed, and what they are.
func (c claim) behind(t *testing.T, m *mem.Mem, word, desc uint64) {
	t.Helper()
	want := c.made(t)
	want.Store(c.addr, word)
	want.Store(c.l.Desc(c.u), desc)
	if !m.Same(want) {
		t.Error(c, "another memory: word", m.Peek(c.addr), "want", word, "desc", m.Peek(c.l.Desc(c.u)), "want", desc)
	}
}

// stays clears a word that has no claim, or that of no thread.
func (c claim) stays(t *testing.T) {
	t.Helper()
	m := c.made(t)
	step(t, m, New(c.l, c.addr), load(c.addr, c.word(t)), true)
	c.behind(t, m, c.word(t), c.desc(t))
}

// strange clears a word whose claim isn't what the descriptor proposes.
func (c claim) strange(t *testing.T) {
	t.Helper()
	m, x := c.made(t), New(c.l, c.addr)
	step(t, m, x, load(c.addr, c.word(t)), false)
	step(t, m, x, load(c.l.Desc(c.u), c.desc(t)), false)
	c.behind(t, m, c.word(t), c.desc(t))
	step(t, m, x, cas(c.addr, c.word(t), c.freed(t)), true)
	c.behind(t, m, c.freed(t), c.desc(t))
}

// wins clears a word whose claim is what the descriptor proposes.
func (c claim) wins(t *testing.T) {
	t.Helper()
	m, x := c.made(t), New(c.l, c.addr)
	step(t, m, x, load(c.addr, c.word(t)), false)
	step(t, m, x, load(c.l.Desc(c.u), c.desc(t)), false)
	c.behind(t, m, c.word(t), c.desc(t))
	step(t, m, x, cas(c.l.Desc(c.u), c.desc(t), c.won(t)), false)
	c.behind(t, m, c.word(t), c.won(t))
	step(t, m, x, cas(c.addr, c.word(t), c.freed(t)), true)
	c.behind(t, m, c.freed(t), c.won(t))
	step(t, m, New(c.l, c.addr), load(c.addr, c.freed(t)), true)
	c.behind(t, m, c.freed(t), c.won(t))
}

// words is some words without a claim.
func words() []word.Word {
	return []word.Word{
		{}, {Key: 5, Next: 1}, {Mark: true}, {Ver: 9}, {Key: 1023}, {Next: 511}, {Ver: 262143},
		{Key: 1023, Next: 511, Mark: true, Ver: 262143}, {Key: 4, Next: 2, Mark: true, Ver: 1},
	}
}

func TestWordWithoutAClaim(t *testing.T) {
	for _, w := range words() {
		for _, more := range []uint64{0, above, 1 << 43} {
			c := of1(of(2, 3), 1, 0, w.Ver)
			c.w, c.above = w, more
			c.stays(t)
			c.addr = c.l.Head(2)
			c.stays(t)
		}
	}
}

func TestClaimOfNoThread(t *testing.T) {
	for threads := 1; threads <= api.MaxThreads; threads++ {
		for by := 1; by <= 31; by++ {
			c := of1(of(threads, 5), 3, (by-1)%threads, 6)
			c.w.Claim = by
			if by > threads {
				c.stays(t)
			} else {
				c.wins(t)
			}
		}
	}
}

func TestDescriptorThatIsNotProposed(t *testing.T) {
	for status := range 8 {
		for u := range 3 {
			c := of1(of(3, 4), 4, u, 12)
			c.d.Status = status
			if status == desc.Proposed {
				c.wins(t)
			} else {
				c.strange(t)
			}
		}
	}
}

func TestDescriptorOfAnotherAddress(t *testing.T) {
	for _, addr := range []int{0, 1, 2, 4, 5, 6, 35, 67, 259, 508, 511} {
		c := of1(of(2, 4), 3, 1, 12)
		c.d.Addr = addr
		c.strange(t)
	}
}

func TestDescriptorOfAnotherVersion(t *testing.T) {
	for _, x := range [][2]int{{12, 11}, {12, 13}, {12, 0}, {0, 262143}, {262143, 0}, {0, 131072}, {131072, 0}, {262143, 262142}} {
		c := of1(of(2, 4), 3, 1, x[0])
		c.d.Ver = x[1]
		c.strange(t)
	}
}

func TestDescriptorThatIsOfNothing(t *testing.T) {
	c := of1(of(2, 3), 1, 1, 0)
	c.d = desc.Desc{}
	c.strange(t)
	c.w = word.Word{Claim: 2}
	c.strange(t)
	c.d = desc.Desc{Att: 4095, Addr: 511, Ver: 262143, Next: 511, Mark: true, Status: 7, Val: 1023}
	c.strange(t)
}

func TestDescriptorThatIsProposed(t *testing.T) {
	for u := range api.MaxThreads {
		for _, addr := range []int{1, 2, 100, 200, most().Head(0), most().Head(3)} {
			for _, ver := range []int{0, 1, 9, 131071, 131072, 262142, 262143} {
				of1(most(), addr, u, ver).wins(t)
			}
		}
	}
	of1(of(1, 1), 1, 0, 3).wins(t)
	of1(of(1, 1), of(1, 1).Head(3), 0, 3).wins(t)
}

// Address and version alone tell what a claim is made for: the word has got
// next and mark already, and attempt and value are somebody else's business.
func TestProposedWhateverElseItIs(t *testing.T) {
	c := of1(of(2, 3), 2, 1, 9)
	for _, w := range words() {
		for _, d := range []desc.Desc{{}, {Att: 4095}, {Next: 511}, {Mark: true}, {Val: 1023}, {Att: 1, Next: 3, Mark: true, Val: 5}} {
			w.Claim, w.Ver = 2, 9
			d.Addr, d.Ver, d.Status = 2, 9, desc.Proposed
			c.w, c.d = w, d
			c.wins(t)
		}
	}
}

func TestAnyAddressIsCleared(t *testing.T) {
	l := of(3, 4)
	for addr := range l.Size() {
		if addr == l.Desc(1) {
			continue
		}
		c := of1(l, addr, 1, 77)
		c.wins(t)
		c.d.Status = desc.Won
		c.strange(t)
		c.w.Claim = 0
		c.stays(t)
	}
}

func TestAddressThatThereIsNot(t *testing.T) {
	c := of1(of(2, 3), 1, 1, 4)
	for _, addr := range []int{-1, -2, c.l.Size(), c.l.Size() + 1, 512, 1000, math.MaxInt, math.MinInt} {
		m := c.made(t)
		step(t, m, New(c.l, addr), mem.Action{Kind: mem.Load, Addr: addr}, true)
		c.behind(t, m, c.word(t), c.desc(t))
	}
}

// Bits that aren't their own don't count, aren't written, and are asked for.
func TestBitsThatAreNotTheirOwn(t *testing.T) {
	for _, x := range [][2]uint64{{above, 0}, {0, aside}, {above, aside}, {1 << 43, 1 << 62}, {1 << 63, 1 << 63}} {
		c := of1(of(2, 3), 1, 1, 262143)
		c.above, c.aside = x[0], x[1]
		c.wins(t)
		c.d.Status = desc.Lost
		c.strange(t)
		c.d.Status, c.d.Ver = desc.Proposed, 0
		c.strange(t)
		c.w.Claim = 3
		c.stays(t)
	}
}

// set is somebody's store behind some steps.
type set struct {
	behind, addr int
	x            uint64
}

// among clears an address, while somebody stores between its steps.
func (c claim) among(t *testing.T, sets []set, want ...mem.Action) *mem.Mem {
	t.Helper()
	m, x := c.made(t), New(c.l, c.addr)
	for i, a := range want {
		for _, s := range sets {
			if s.behind == i {
				m.Store(s.addr, s.x)
			}
		}
		step(t, m, x, a, i == len(want)-1)
	}
	return m
}

func TestAnotherWordBetweenTheSteps(t *testing.T) {
	c := of1(of(2, 3), 1, 1, 9)
	at, was, won, freed := c.l.Desc(1), c.desc(t), c.won(t), c.freed(t)
	for _, x := range []uint64{freed, 0, c.word(t) | 1<<43, c.word(t) + 1, bits(t, word.Word{Claim: 1, Ver: 9}), was} {
		for behind := 1; behind <= 3; behind++ {
			m := c.among(t, []set{{behind, 1, x}},
				load(1, c.word(t)), load(at, was), cas(at, was, won), lost(1, x, freed))
			c.behind(t, m, x, won)
		}
		s := c
		s.d.Status = desc.Won
		for behind := 1; behind <= 2; behind++ {
			m := s.among(t, []set{{behind, 1, x}}, load(1, c.word(t)), load(at, won), lost(1, x, freed))
			s.behind(t, m, x, won)
		}
	}
}

// A descriptor that was another one by the time it was to be Won stays; the
// word is freed nevertheless.
func TestAnotherDescriptorBetweenTheSteps(t *testing.T) {
	c := of1(of(2, 3), 1, 1, 9)
	at, was, won, freed := c.l.Desc(1), c.desc(t), c.won(t), c.freed(t)
	for _, x := range []uint64{won, 0, was | 1<<62, was + 1, plan(t, c.d.With(desc.Lost)), plan(t, c.d.Next1())} {
		m := c.among(t, []set{{2, at, x}}, load(1, c.word(t)), load(at, was), lost(at, x, won), cas(1, c.word(t), freed))
		c.behind(t, m, freed, x)
		m = c.among(t, []set{{3, at, x}}, load(1, c.word(t)), load(at, was), cas(at, was, won), cas(1, c.word(t), freed))
		c.behind(t, m, freed, x)
	}
}

// What was stored ahead of the Load of it is what is gone by.
func TestAnotherDescriptorAheadOfItsLoad(t *testing.T) {
	c := of1(of(2, 3), 1, 1, 9)
	at, freed, late := c.l.Desc(1), c.freed(t), plan(t, c.d.With(desc.Empty))
	m := c.among(t, []set{{1, at, late}}, load(1, c.word(t)), load(at, late), cas(1, c.word(t), freed))
	c.behind(t, m, freed, late)
	was, won := c.desc(t), c.won(t)
	c.d = desc.Desc{Status: desc.Idle}
	m = c.among(t, []set{{1, at, was}}, load(1, c.word(t)), load(at, was), cas(at, was, won), cas(1, c.word(t), freed))
	c.behind(t, m, freed, won)
}

func TestBothAreOthersBetweenTheSteps(t *testing.T) {
	c := of1(of(2, 3), 1, 1, 9)
	at, was := c.l.Desc(1), c.desc(t)
	m := c.among(t, []set{{2, at, 5}, {2, 1, 6}}, load(1, c.word(t)), load(at, was), lost(at, 5, c.won(t)), lost(1, 6, c.freed(t)))
	c.behind(t, m, 6, 5)
}

// What has gone and come again is what was loaded.
func TestTheSameBitsAgainBetweenTheSteps(t *testing.T) {
	c := of1(of(2, 3), 1, 1, 9)
	at, was, is := c.l.Desc(1), c.desc(t), c.word(t)
	m := c.among(t, []set{{1, 1, 0}, {2, at, 0}, {2, at, was}, {3, 1, is}},
		load(1, is), load(at, was), cas(at, was, c.won(t)), cas(1, is, c.freed(t)))
	c.behind(t, m, c.freed(t), c.won(t))
}

// A claim that was made anew, of a version more, isn't taken away by who was
// about to take away the one ahead of it.
func TestClaimMadeAnewIsKept(t *testing.T) {
	for behind := 1; behind <= 3; behind++ {
		c := of1(of(2, 3), 1, 1, 262143)
		anew := of1(c.l, 1, 1, 0)
		anew.d.Att++
		m, x := c.made(t), New(c.l, c.addr)
		mem.Run(m, behind, x)
		mem.Run(m, 9, New(c.l, c.addr))
		m.Store(c.l.Desc(1), anew.desc(t))
		m.Store(1, anew.word(t))
		if n, ok := mem.Run(m, 9, x); !ok || n > 3 {
			t.Error(behind, n, ok)
		}
		anew.behind(t, m, anew.word(t), anew.desc(t))
		if n, ok := mem.Run(m, 9, New(c.l, 1)); n != 4 || !ok {
			t.Error(behind, n, ok)
		}
		anew.behind(t, m, anew.freed(t), anew.won(t))
	}
}

func TestClaimed(t *testing.T) {
	c := of1(most(), 1, 7, 3)
	for _, addr := range []int{0, 1, 200, c.l.Head(0), c.l.Head(3), c.l.Counter()} {
		for by := range 32 {
			for _, more := range []uint64{0, above} {
				for _, w := range words() {
					c.addr, c.w, c.above = addr, w, more
					c.w.Claim = by
					c.asked(t, max(by-1, 0), by > 0)
				}
			}
		}
	}
}

// asked asks who claims a claim's word.
func (c claim) asked(t *testing.T, want int, is bool) {
	t.Helper()
	m := c.made(t)
	if u, ok := Claimed(m, c.addr); u != want || ok != is {
		t.Error(c, u, ok)
	}
	if m.Actions() != 0 {
		t.Error(c, "an action", m.Last())
	}
	c.behind(t, m, c.word(t), c.desc(t))
}

// Whoever claims a word is told whatever the descriptor is.
func TestClaimedWhateverIsProposed(t *testing.T) {
	for status := range 8 {
		c := of1(of(2, 3), 2, 1, 9)
		c.d.Status = status
		c.asked(t, 1, true)
		c.d.Addr, c.d.Ver = 3, 8
		c.asked(t, 1, true)
	}
}

func TestClaimedOfNoAddress(t *testing.T) {
	c := of1(of(2, 3), 1, 1, 9)
	m := c.made(t)
	for _, addr := range []int{-1, c.l.Size(), 1000, math.MaxInt, math.MinInt} {
		if u, ok := Claimed(m, addr); u != 0 || ok {
			t.Error(addr, u, ok)
		}
		if u, ok := Claimed(nil, addr); u != 0 || ok {
			t.Error(addr, u, ok)
		}
	}
	if u, ok := Claimed(nil, 1); u != 0 || ok || m.Actions() != 0 {
		t.Error(u, ok, m.Actions())
	}
}

func TestClaimedAsItIsCleared(t *testing.T) {
	c := of1(of(2, 3), 2, 1, 9)
	m, x := c.made(t), New(c.l, 2)
	for i := range 4 {
		if u, ok := Claimed(m, 2); u != 1 || !ok {
			t.Error(i, u, ok)
		}
		x.Step(m)
	}
	if u, ok := Claimed(m, 2); u != 0 || ok {
		t.Error(u, ok)
	}
}

func TestMachineEmbedsTheLayout(t *testing.T) {
	l := of(2, 3)
	if x := New(l, 1); x.Layout != l || x.Threads != 2 || x.Desc(1) != l.Desc(1) || x.Size() != l.Size() {
		t.Error(x.Layout)
	}
}

func TestStepBehindTheLastDoesNothing(t *testing.T) {
	c := of1(of(2, 3), 1, 1, 9)
	m, x, one := c.made(t), New(c.l, 1), New(c.l, 1)
	if n, ok := mem.Run(m, 9, x, one); n != 5 || !ok {
		t.Fatal(n, ok)
	}
	m.Store(1, c.word(t))
	m.Store(c.l.Desc(1), c.desc(t))
	was := m.Actions()
	for range 5 {
		if !x.Step(m) || !one.Step(m) {
			t.Error("not the end")
		}
	}
	if m.Actions() != was {
		t.Error(m.Actions() - was)
	}
	c.behind(t, m, c.word(t), c.desc(t))
}

// What was never made by a call of the package works too: it has no threads.
func TestMachineThatWasNotMade(t *testing.T) {
	c := of1(of(2, 3), 0, 1, 9)
	m, x := c.made(t), &Clear{}
	step(t, m, x, load(0, c.word(t)), true)
	c.behind(t, m, c.word(t), c.desc(t))
	if !x.Step(m) {
		t.Error("not the end")
	}
}

func TestMemoryThatIsNotThere(t *testing.T) {
	if n, ok := mem.Run(nil, 9, New(of(2, 3), 1)); n != 1 || !ok {
		t.Error(n, ok)
	}
}

// Where there is no descriptor, a Load tells 0, which is nobody's.
func TestMemoryThatIsTooSmall(t *testing.T) {
	c := of1(of(1, 1), 1, 0, 9)
	c.w.Claim = 8
	m, x := c.made(t), New(most(), 1)
	step(t, m, x, load(1, c.word(t)), false)
	step(t, m, x, mem.Action{Kind: mem.Load, Addr: most().Desc(7)}, false)
	step(t, m, x, cas(1, c.word(t), c.freed(t)), true)
	c.behind(t, m, c.freed(t), c.desc(t))
}

func TestLayoutThatIsNotRightPanicsNowhere(t *testing.T) {
	for _, l := range []mem.Layout{
		{}, {Threads: 1}, {Nodes: 3}, of(9, 3), of(2, 201), of(-1, 3), of(2, -1), of(31, 0), of(2, math.MaxInt),
		of(2, math.MinInt), of(math.MaxInt, math.MaxInt), of(math.MinInt, math.MinInt),
	} {
		for by := range 32 {
			c := of1(of(2, 3), 1, 1, 9)
			c.w.Claim = by
			x := New(l, 1)
			if n, ok := mem.Run(c.made(t), 9, x); n > 4 || !ok || !x.Step(nil) {
				t.Error(l, by, n, ok)
			}
		}
	}
}
