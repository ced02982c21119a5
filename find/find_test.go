package find

import (
	"slices"
	"testing"

	"sherpa/api"
	"sherpa/desc"
	"sherpa/mem"
	"sherpa/word"
)

// above is bits that are no word's.
const above = uint64(0x15555)<<43 | 1<<63

// of is a layout of some threads and nodes.
func of(threads, nodes int) mem.Layout { return mem.Layout{Threads: threads, Nodes: nodes} }

// most is the greatest layout.
func most() mem.Layout { return of(api.MaxThreads, api.MaxNodes) }

// bits is a word's.
func bits(t *testing.T, w word.Word) uint64 {
	t.Helper()
	x, e := word.Put(w)
	if e != api.OK {
		t.Fatal(w, e)
	}
	return x
}

// plan is a descriptor's bits.
func plan(t *testing.T, d desc.Desc) uint64 {
	t.Helper()
	x, e := desc.Put(d)
	if e != api.OK {
		t.Fatal(d, e)
	}
	return x
}

// scene is who finds which key, with words at some addresses.
type scene struct {
	l                    mem.Layout
	me, head, key, limit int
	words                map[int]uint64
}

// list is a scene in which head 0 has the first word, and node 1 the second
// one, and so on; each has the next one as its next, the last one has none.
func list(t *testing.T, l mem.Layout, me, key, limit int, words ...word.Word) scene {
	t.Helper()
	s := scene{l: l, me: me, key: key, limit: limit, words: map[int]uint64{}}
	for i, w := range words {
		if w.Next = i + 1; i+1 == len(words) {
			w.Next = 0
		}
		s.words[s.at(i)] = bits(t, w)
	}
	return s
}

// at is the address of a node; of 0 that of the head.
func (s scene) at(node int) int {
	if node == 0 {
		return s.l.Head(s.head)
	}
	return node
}

// made is memory with the scene's words, in which each other word is another one.
func (s scene) made(t *testing.T) *mem.Mem {
	t.Helper()
	words := make([]uint64, s.l.Size())
	for addr := range words {
		words[addr] = uint64(addr+1) * 0x9E3779B97F4A7C15
		if x, ok := s.words[addr]; ok {
			words[addr] = x
		}
	}
	m, e := mem.New(s.l, words...)
	if e != api.OK {
		t.Fatal(s, e)
	}
	return m
}

// finds is the scene's machine.
func (s scene) finds() *Find { return New(s.l, s.me, s.head, s.key, s.limit) }

// act is an action that is to be seen, or somebody else's Store ahead of it.
type act struct {
	kind, addr int
	x          uint64
	lost       bool // a Cas that finds another word than the old one
	others     bool
}

func load(addr int) act            { return act{kind: mem.Load, addr: addr} }
func put(addr int, x uint64) act   { return act{kind: mem.Store, addr: addr, x: x} }
func cas(addr int, x uint64) act   { return act{kind: mem.Cas, addr: addr, x: x} }
func lost(addr int, x uint64) act  { return act{kind: mem.Cas, addr: addr, x: x, lost: true} }
func other(addr int, x uint64) act { return act{addr: addr, x: x, others: true} }

// guards and passes are the stores of points 2 and 6.
func (s scene) guards(node int) act { return put(s.l.Slot(s.me, 1), uint64(node)) }
func (s scene) passes(node int) act { return put(s.l.Slot(s.me, 0), uint64(node)) }

// meets is points 1 to 4 of a pred and its next; goes is these and point 6.
func (s scene) meets(pred, curr int) []act { return append([]act{load(pred)}, s.again(pred, curr)...) }
func (s scene) again(pred, curr int) []act { return []act{s.guards(curr), load(pred), load(curr)} }
func (s scene) goes(pred, curr int) []act  { return append(s.meets(pred, curr), s.passes(curr)) }

// seen is what mem tells of an action over a memory as it is.
func (a act) seen(m *mem.Mem) mem.Action {
	want := mem.Action{Kind: a.kind, Addr: a.addr}
	if a.addr < 0 || a.addr >= m.Size() {
		return want
	}
	want.Old, want.New, want.Ok = m.Peek(a.addr), a.x, !a.lost
	if a.kind == mem.Load {
		want.New = want.Old
	}
	return want
}

// follow asks whether the machine does just these actions; whether it ended
// with the last one, and with none ahead of it.
func follow(t *testing.T, m *mem.Mem, f *Find, acts ...act) bool {
	t.Helper()
	ended := false
	for i, a := range acts {
		if a.others {
			m.Store(a.addr, a.x)
			continue
		}
		if ended {
			t.Error("ended ahead of action", i)
			return false
		}
		was, want := m.Actions(), a.seen(m)
		ended = f.Step(m)
		if m.Actions() != was+1 || m.Last() != want {
			t.Errorf("action %d: %d actions, the last one %+v, want %+v", i, m.Actions()-was, m.Last(), want)
			return false
		}
	}
	return ended
}

// end is what a machine tells.
type end struct {
	pos      Pos
	tries    int
	unlinked []int
	aborted  bool
}

// abort is what a machine tells that was aborted.
func abort(tries int, unlinked ...int) end {
	return end{tries: tries, unlinked: unlinked, aborted: true}
}

// tells asks what a machine tells.
func (f *Find) tells(t *testing.T, want end) {
	t.Helper()
	if f.Pos != want.pos || f.Tries != want.tries || !slices.Equal(f.Unlinked, want.unlinked) || f.Aborted != want.aborted {
		t.Errorf("%+v, %d tries, unlinked %v, aborted %v, want %+v", f.Pos, f.Tries, f.Unlinked, f.Aborted, want)
	}
}

// run asks whether the scene's machine does these actions, and tells this.
func (s scene) run(t *testing.T, want end, acts ...act) {
	t.Helper()
	m, f := s.made(t), s.finds()
	if !follow(t, m, f, acts...) {
		t.Error("not the end")
	}
	f.tells(t, want)
}

// acts is lists of actions, one behind the other.
func acts(l ...[]act) []act { return slices.Concat(l...) }

// words is some words that aren't marked, with a next.
func words(next int) []word.Word {
	return []word.Word{
		{Next: next}, {Key: 1023, Next: next}, {Next: next, Claim: 1}, {Next: next, Claim: 31}, {Next: next, Ver: 9},
		{Key: 1023, Next: next, Claim: 31, Ver: 262143},
	}
}

func TestNoCurr(t *testing.T) {
	for head := range api.Heads {
		for me := range 3 {
			for _, w := range words(0) {
				for _, more := range []uint64{0, above, 1 << 43} {
					x := bits(t, w) | more
					s := scene{l: of(3, 4), me: me, head: head, key: 5}
					s.words = map[int]uint64{s.at(0): x}
					s.run(t, end{pos: Pos{Pred: s.at(0), PW: x}}, load(s.at(0)))
				}
			}
		}
	}
}

func TestHeadThatIsMarked(t *testing.T) {
	for limit := -3; limit <= 4; limit++ {
		s := list(t, of(2, 4), 1, 5, limit, word.Word{Mark: true}, word.Word{Key: 9})
		tries := max(limit, 0) + 1
		s.run(t, abort(tries), slices.Repeat([]act{load(s.at(0))}, tries)...)
	}
}

func TestTriesAreSeenBehindTheirActions(t *testing.T) {
	s := list(t, of(2, 4), 1, 5, 3, word.Word{Mark: true})
	m, f := s.made(t), s.finds()
	for tries := range 4 {
		if f.Tries != tries || f.Aborted {
			t.Error(tries, f.Tries, f.Aborted)
		}
		f.Step(m)
	}
	f.tells(t, abort(4))
}

// pair is a list of a node whose key is less than 5, and one whose key isn't.
func pair(t *testing.T, limit int) scene {
	t.Helper()
	return list(t, of(2, 4), 1, 5, limit, word.Word{}, word.Word{Key: 3}, word.Word{Key: 8})
}

func TestOrdinaryList(t *testing.T) {
	s := pair(t, 0)
	s.run(t, end{pos: Pos{1, s.words[1], 2, s.words[2]}}, acts(s.goes(s.at(0), 1), s.meets(1, 2))...)
	s.key = 3
	s.run(t, end{pos: Pos{s.at(0), s.words[s.at(0)], 1, s.words[1]}}, s.meets(s.at(0), 1)...)
	s.key = 9
	s.run(t, end{pos: Pos{Pred: 2, PW: s.words[2]}}, acts(s.goes(s.at(0), 1), s.goes(1, 2), []act{load(2)})...)
}

// The document's example: node 1 is unlinked, and curr is node 2.
func TestExample(t *testing.T) {
	s := list(t, of(1, 2), 0, 6, 0, word.Word{}, word.Word{Key: 5, Mark: true}, word.Word{Key: 8})
	head, linked := s.at(0), bits(t, word.Word{Next: 2, Ver: 1})
	s.run(t, end{Pos{head, linked, 2, s.words[2]}, 0, []int{1}, false},
		load(head), put(s.l.Slot(0, 1), 1), load(head), load(1), cas(head, linked), put(s.l.Slot(0, 1), 2), load(head), load(2))
}

// A node that was passed, and is marked by the time it is loaded as pred.
func TestPredThatIsMarked(t *testing.T) {
	s := pair(t, 1)
	head, marked := s.at(0), bits(t, word.Word{Key: 3, Next: 2, Mark: true, Ver: 1})
	linked := bits(t, word.Word{Next: 2, Ver: 1})
	first := acts(s.goes(head, 1), []act{other(1, marked), load(1)})
	s.run(t, end{Pos{head, linked, 2, s.words[2]}, 1, []int{1}, false},
		acts(first, s.meets(head, 1), []act{cas(head, linked)}, s.again(head, 2))...)
	s.limit = 0
	s.run(t, abort(1), first...)
}

func TestCurrIsGuardedByEachThread(t *testing.T) {
	for me := range api.MaxThreads {
		for _, node := range []int{1, 2, 199, 200} {
			s := scene{l: most(), me: me, head: 3, key: 5}
			s.words = map[int]uint64{s.at(0): bits(t, word.Word{Next: node}), node: bits(t, word.Word{Key: 2})}
			m, f := s.made(t), s.finds()
			if !follow(t, m, f, append(s.goes(s.at(0), node), load(node))...) {
				t.Error(me, node)
			}
			want := s.made(t)
			want.Store(s.l.Slot(me, 0), uint64(node))
			want.Store(s.l.Slot(me, 1), uint64(node))
			if !m.Same(want) {
				t.Error("another memory:", me, node)
			}
			f.tells(t, end{pos: Pos{Pred: node, PW: s.words[node]}})
		}
	}
}

// others is words that aren't the one at pred, and aren't marked, with a next.
func others(t *testing.T, is uint64, next int) []uint64 {
	t.Helper()
	l := []uint64{bits(t, word.Word{Next: next}) | above, bits(t, word.Word{Next: next}) | 1<<43}
	for _, w := range words(next) {
		l = append(l, bits(t, w))
	}
	return slices.DeleteFunc(l, func(x uint64) bool { return x == is })
}

// In point 3 another word is pred's word now; bits that aren't a word's own
// make it another one too.
func TestAnotherWordIsPredsNow(t *testing.T) {
	s := pair(t, 1)
	head := s.at(0)
	first := []act{load(head), s.guards(1)}
	for _, next := range []int{1, 2} {
		for _, x := range others(t, s.words[head], next) {
			again := append(slices.Clone(first), other(head, x), load(head))
			want := end{pos: Pos{head, x, next, s.words[next]}, tries: 1}
			if s.key = 8; next == 1 {
				s.key = 3
			}
			s.limit = 1
			s.run(t, want, acts(again, s.again(head, next))...)
			s.limit = 0
			s.run(t, abort(1), again...)
		}
	}
}

func TestAnotherWordWithoutANext(t *testing.T) {
	s := pair(t, 1)
	for _, x := range others(t, s.words[s.at(0)], 0) {
		again := []act{load(s.at(0)), s.guards(1), other(s.at(0), x), load(s.at(0))}
		s.limit = 1
		s.run(t, end{pos: Pos{Pred: s.at(0), PW: x}, tries: 1}, again...)
		s.limit = 0
		s.run(t, abort(1), again...)
	}
}

func TestAnotherWordThatIsMarked(t *testing.T) {
	s := pair(t, 1)
	head := s.at(0)
	for _, w := range append(words(2), words(0)...) {
		w.Mark = true
		again := acts(s.goes(head, 1), []act{load(1), s.guards(2), other(1, bits(t, w)), load(1)})
		s.limit = 1
		s.run(t, end{pos: Pos{Pred: head, PW: 0}, tries: 1}, append(slices.Clone(again), other(head, 0), load(head))...)
		s.limit = 0
		s.run(t, abort(1), again...)
	}
}

// Each time that there is another word is a try.
func TestAnotherWordAgainAndAgain(t *testing.T) {
	for limit := range 5 {
		s := pair(t, limit)
		l := []act{load(s.at(0))}
		for i := range limit + 1 {
			x := bits(t, word.Word{Next: 1 + (i+1)%2, Ver: i + 1})
			l = append(l, s.guards(1+i%2), other(s.at(0), x), load(s.at(0)))
		}
		s.run(t, abort(limit+1), l...)
	}
}

func TestTheSameWordAgain(t *testing.T) {
	s := pair(t, 0)
	s.key = 3
	head := s.at(0)
	for _, w := range words(1) {
		for _, more := range []uint64{0, above} {
			x := bits(t, w) | more
			s.words[head] = x
			s.run(t, end{pos: Pos{head, x, 1, s.words[1]}},
				load(head), other(head, 0), s.guards(1), other(head, x), load(head), other(head, 0), load(1))
		}
	}
}

func TestKeyOfCurr(t *testing.T) {
	for _, key := range []int{0, 1, 5, 999, 1023} {
		for _, by := range []int{0, 1, 2, 3, 31} {
			for _, more := range []uint64{0, above} {
				s := list(t, of(2, 4), 0, 0, 0, word.Word{Claim: by}, word.Word{Key: key, Claim: by, Ver: 7})
				s.words[1] |= more
				head := s.at(0)
				for _, s.key = range []int{key - 1, key} {
					s.run(t, end{pos: Pos{head, s.words[head], 1, s.words[1]}}, s.meets(head, 1)...)
				}
				s.key = key + 1
				s.run(t, end{pos: Pos{Pred: 1, PW: s.words[1]}}, append(s.goes(head, 1), load(1))...)
			}
		}
	}
}

// claimed is a list in which the second node is marked; the first one and it
// are claimed by who is told (0: by nobody).
func claimed(t *testing.T, by1, by2 int) scene {
	t.Helper()
	return list(t, of(3, 4), 1, 5, 9, word.Word{Claim: 3}, word.Word{Key: 3, Claim: by1, Ver: 8},
		word.Word{Key: 4, Mark: true, Claim: by2, Ver: 9}, word.Word{Key: 8})
}

// proposes lets a thread's descriptor propose what a node is claimed for.
func (s scene) proposes(t *testing.T, u, node int) (was, won uint64) {
	t.Helper()
	d := desc.Desc{Att: 7, Addr: node, Ver: word.Get(s.words[node]).Ver, Next: 3, Status: desc.Proposed, Val: 4}
	s.words[s.l.Desc(u)] = plan(t, d)
	return plan(t, d), plan(t, d.With(desc.Won))
}

// freed is the bits of a node's word without a claim.
func (s scene) freed(t *testing.T, node int) uint64 {
	t.Helper()
	return bits(t, word.Get(s.words[node]).Free())
}

// cleared asks whether a node is cleared by just these actions, which is a try;
// then it is gone on from node 1, where others have left no next.
func (s scene) cleared(t *testing.T, clearing ...act) {
	t.Helper()
	first := acts(s.goes(s.at(0), 1), s.meets(1, 2), clearing)
	s.limit = 1
	s.run(t, end{pos: Pos{Pred: 1}, tries: 1}, append(slices.Clone(first), other(1, 0), load(1))...)
	s.limit = 0
	s.run(t, abort(1), first...)
}

func TestMarkedAndClaimedIsCleared(t *testing.T) {
	for by1 := range 5 {
		for u := range 3 {
			s := claimed(t, by1, u+1)
			at := s.l.Desc(u)
			s.words[at] = plan(t, desc.Desc{Status: desc.Empty})
			s.cleared(t, load(2), load(at), cas(2, s.freed(t, 2)))
			_, won := s.proposes(t, u, 2)
			s.cleared(t, load(2), load(at), cas(at, won), cas(2, s.freed(t, 2)))
			s.cleared(t, load(2), other(at, 5), load(at), other(2, 6), lost(2, s.freed(t, 2)))
			s.cleared(t, load(2), load(at), other(at, 5), lost(at, won), cas(2, s.freed(t, 2)))
			s.cleared(t, other(2, 0), load(2))
		}
	}
}

// There is nothing to be taken away from a thread that there isn't: the try
// that is behind it is all that comes of it.
func TestClaimOfNoThread(t *testing.T) {
	for _, by := range []int{4, 5, 8, 9, 31} {
		claimed(t, 0, by).cleared(t, load(2))
		claimed(t, by, 0).cleared(t, load(1))
		claimed(t, by, by).cleared(t, load(2))
		s := claimed(t, 0, by)
		s.limit = 2
		clearing := append(s.meets(1, 2), load(2))
		s.run(t, abort(3), acts(s.goes(s.at(0), 1), clearing, clearing, clearing)...)
	}
}

func TestPredThatIsClaimedIsCleared(t *testing.T) {
	for u := range 3 {
		s := claimed(t, u+1, 0)
		at := s.l.Desc(u)
		s.words[at] = plan(t, desc.Desc{Status: desc.Lost})
		s.cleared(t, load(1), load(at), cas(1, s.freed(t, 1)))
		was, won := s.proposes(t, u, 1)
		s.cleared(t, load(1), load(at), cas(at, won), cas(1, s.freed(t, 1)))
		s.cleared(t, load(1), load(at), cas(at, won), other(1, 6), lost(1, s.freed(t, 1)))
		s.cleared(t, load(1), load(at), other(at, was|1<<62), lost(at, won), cas(1, s.freed(t, 1)))
		s.cleared(t, other(1, 0), load(1))
	}
}

// Whose claim it is is told by the word that was loaded, whatever others have
// stored since.
func TestClaimThatWasLoadedIsGoneBy(t *testing.T) {
	s := claimed(t, 0, 0)
	linked := bits(t, word.Word{Key: 3, Next: 3, Ver: 9})
	x := bits(t, word.Word{Key: 4, Next: 3, Mark: true, Claim: 1, Ver: 9})
	s.run(t, end{Pos{1, linked, 3, s.words[3]}, 0, []int{2}, false},
		acts(s.goes(s.at(0), 1), s.meets(1, 2), []act{other(2, x), cas(1, linked)}, s.again(1, 3))...)
	y := bits(t, word.Word{Key: 3, Next: 2, Claim: 1, Ver: 8})
	s.limit = 0
	s.run(t, abort(1), acts(s.goes(s.at(0), 1), s.meets(1, 2), []act{other(1, y), lost(1, linked)})...)
	s = claimed(t, 1, 0)
	meets := []act{load(1), s.guards(2), load(1), other(1, s.freed(t, 1)), load(2)}
	s.cleared(t, other(1, s.freed(t, 1)), load(1))
	s.limit = 0
	s.run(t, abort(1), acts(s.goes(s.at(0), 1), meets, []act{load(1)})...)
}

// Both claims are cleared, that of curr first; then curr is unlinked.
func TestBothAreClearedThenUnlinked(t *testing.T) {
	s := claimed(t, 1, 3)
	_, won1 := s.proposes(t, 0, 1)
	_, won2 := s.proposes(t, 2, 2)
	linked := bits(t, word.Word{Key: 3, Next: 3, Ver: 10})
	clear2 := []act{load(2), load(s.l.Desc(2)), cas(s.l.Desc(2), won2), cas(2, s.freed(t, 2))}
	clear1 := []act{load(1), load(s.l.Desc(0)), cas(s.l.Desc(0), won1), cas(1, s.freed(t, 1))}
	l := acts(s.goes(s.at(0), 1), s.meets(1, 2), clear2, s.meets(1, 2), clear1)
	s.limit = 2
	s.run(t, end{Pos{1, linked, 3, s.words[3]}, 2, []int{2}, false}, acts(l, s.meets(1, 2), []act{cas(1, linked)}, s.again(1, 3))...)
	s.limit = 1
	s.run(t, abort(2), l...)
}

// A try of clearing is counted with the last one of its actions.
func TestClearingIsATryBehindItsLastAction(t *testing.T) {
	s := claimed(t, 1, 3)
	s.proposes(t, 2, 2)
	m, f := s.made(t), s.finds()
	follow(t, m, f, acts(s.goes(s.at(0), 1), s.meets(1, 2))...)
	for i := range 4 {
		if f.Tries != 0 {
			t.Error(i, f.Tries)
		}
		f.Step(m)
	}
	if f.Tries != 1 {
		t.Error(f.Tries)
	}
}

// marked is a list of marked nodes, ahead of one whose key is 8, which isn't.
func marked(t *testing.T, nodes int, ver int) scene {
	t.Helper()
	l := []word.Word{{Key: 77, Ver: ver}}
	for range nodes {
		l = append(l, word.Word{Key: 900, Mark: true, Ver: 4})
	}
	return list(t, of(2, nodes+1), 0, 5, 0, append(l, word.Word{Key: 8})...)
}

func TestMarkedIsUnlinked(t *testing.T) {
	for _, ver := range []int{0, 1, 131071, 262142, 262143} {
		for _, more := range []uint64{0, above, 1 << 43} {
			s := marked(t, 1, ver)
			head := s.at(0)
			s.words[head] |= more
			s.words[1] |= more
			linked := bits(t, word.Word{Key: 77, Next: 2, Ver: (ver + 1) % 262144})
			s.run(t, end{Pos{head, linked, 2, s.words[2]}, 0, []int{1}, false},
				acts(s.meets(head, 1), []act{cas(head, linked)}, s.again(head, 2))...)
			s.words[1] = bits(t, word.Word{Key: 3, Mark: true}) | more
			last := bits(t, word.Word{Key: 77, Ver: (ver + 1) % 262144})
			s.run(t, end{Pos{Pred: head, PW: last}, 0, []int{1}, false}, append(s.meets(head, 1), cas(head, last))...)
		}
	}
}

// They are unlinked one behind the other, without another Load in point 1.
func TestSomeAreUnlinkedInOrder(t *testing.T) {
	s := marked(t, 3, 262142)
	head := s.at(0)
	linked := func(next, ver int) uint64 { return bits(t, word.Word{Key: 77, Next: next, Ver: ver}) }
	s.run(t, end{Pos{head, linked(4, 1), 4, s.words[4]}, 0, []int{1, 2, 3}, false},
		acts([]act{load(head)}, s.again(head, 1), []act{cas(head, linked(2, 262143))}, s.again(head, 2),
			[]act{cas(head, linked(3, 0))}, s.again(head, 3), []act{cas(head, linked(4, 1))}, s.again(head, 4))...)
}

// What was unlinked is seen with the Cas that did it.
func TestUnlinkedIsSeenBehindTheCas(t *testing.T) {
	s := marked(t, 2, 0)
	m, f := s.made(t), s.finds()
	for i, want := range []int{0, 0, 0, 0, 1, 1, 1, 1, 2, 2, 2, 2} {
		if f.Step(m) != (i == 11) || len(f.Unlinked) != want {
			t.Error(i, f.Unlinked)
		}
	}
}

func TestUnlinkingThatIsNotDone(t *testing.T) {
	s := claimed(t, 0, 0)
	was, linked := s.words[1], bits(t, word.Word{Key: 3, Next: 3, Ver: 9})
	for _, x := range append(others(t, was, 2), was|1<<43, was^1<<25, was^1<<20, was^1<<19, was^1, 0, linked) {
		first := acts(s.goes(s.at(0), 1), s.meets(1, 2), []act{other(1, x), lost(1, linked)})
		s.limit = 1
		s.run(t, end{pos: Pos{Pred: 1}, tries: 1}, append(slices.Clone(first), other(1, 0), load(1))...)
		s.limit = 0
		s.run(t, abort(1), first...)
	}
}

// What has gone and come again is what was loaded.
func TestUnlinkingOfTheSameBitsAgain(t *testing.T) {
	s := marked(t, 1, 3)
	head := s.at(0)
	linked := bits(t, word.Word{Key: 77, Next: 2, Ver: 4})
	s.run(t, end{Pos{head, linked, 2, s.words[2]}, 0, []int{1}, false},
		acts(s.meets(head, 1), []act{other(1, 0), other(head, 0), other(head, s.words[head]), cas(head, linked)}, s.again(head, 2))...)
}

// Others that store in its slots change nothing of what it does.
func TestSlotsAreNotLookedAt(t *testing.T) {
	s := pair(t, 0)
	one, two := other(s.l.Slot(1, 0), 7), other(s.l.Slot(1, 1), 9)
	s.run(t, end{pos: Pos{1, s.words[1], 2, s.words[2]}},
		one, two, load(s.at(0)), two, s.guards(1), one, two, load(s.at(0)), two, load(1), two, s.passes(1),
		one, two, load(1), s.guards(2), one, two, load(1), one, two, load(2))
}
