package find

import (
	"math"
	"testing"

	"sherpa/api"
	"sherpa/mem"
	"sherpa/word"
)

// round is a list without an end: the last one of some nodes, each of which has
// the key 3, has the first one as its next.
func round(t *testing.T, nodes, limit int) scene {
	t.Helper()
	s := scene{l: of(2, nodes), me: 1, key: 5, limit: limit, words: map[int]uint64{}}
	s.words[s.at(0)] = bits(t, word.Word{Next: 1})
	for node := 1; node <= nodes; node++ {
		s.words[node] = bits(t, word.Word{Key: 3, Next: node%nodes + 1})
	}
	return s
}

// lap is the actions of as many moves as there may be, and one more.
func (s scene) lap() []act {
	l := s.goes(s.at(0), 1)
	for node := 1; node <= s.l.Nodes; node++ {
		l = append(l, s.goes(node, node%s.l.Nodes+1)...)
	}
	return l
}

func TestMoreMovesThanNodes(t *testing.T) {
	for _, nodes := range []int{1, 2, 3, 7, 200} {
		for limit := -1; limit <= 3; limit++ {
			s := round(t, nodes, limit)
			var l []act
			for range max(limit, 0) + 1 {
				l = append(l, s.lap()...)
			}
			s.run(t, abort(max(limit, 0)+1), l...)
		}
	}
}

// Behind beginning anew there are no moves yet, so that all nodes are passed.
func TestAsManyMovesAsNodes(t *testing.T) {
	for _, nodes := range []int{1, 2, 3, 200} {
		s := round(t, nodes, 0)
		last := bits(t, word.Word{Key: 3})
		lap := s.lap()
		s.limit = 1
		s.run(t, end{pos: Pos{Pred: nodes, PW: last}, tries: 1},
			acts(lap, []act{other(nodes, last)}, lap[:5*nodes], []act{load(nodes)})...)
		s.words[nodes] = last
		s.limit = 0
		s.run(t, end{pos: Pos{Pred: nodes, PW: last}}, append(lap[:5*nodes:5*nodes], load(nodes))...)
	}
}

func TestAsManyAreUnlinkedAsThereAreNodes(t *testing.T) {
	for _, nodes := range []int{1, 2, 3, 200} {
		s := marked(t, nodes, 0)
		s.l = of(2, nodes)
		head, l, all := s.at(0), []act{load(s.l.Head(0))}, []int{}
		s.words[head] = bits(t, word.Word{Key: 77, Next: 1})
		s.words[nodes] = bits(t, word.Word{Mark: true})
		last := uint64(0)
		for node := 1; node <= nodes; node++ {
			last = bits(t, word.Word{Key: 77, Next: (node + 1) % (nodes + 1), Ver: node})
			l = append(append(l, s.again(head, node)...), cas(head, last))
			all = append(all, node)
		}
		s.run(t, end{Pos{Pred: head, PW: last}, 0, all, false}, l...)
	}
}

// A move too many is asked for ahead of all else: also if there is no next, or
// the next one is the one.
func TestUnlinkingIsTheMoveTooMany(t *testing.T) {
	for next := range 3 {
		s := list(t, of(2, 2), 0, 5, 1, word.Word{}, word.Word{Key: 1}, word.Word{Key: 2})
		head := s.at(0)
		first := acts(s.goes(head, 1), s.goes(1, 2), []act{
			other(2, bits(t, word.Word{Key: 2, Next: 1})), other(1, bits(t, word.Word{Key: 9, Next: next, Mark: true})),
		}, s.meets(2, 1), []act{cas(2, bits(t, word.Word{Key: 2, Next: next, Ver: 1}))})
		s.run(t, end{Pos{Pred: head}, 1, []int{1}, false}, append(first[:len(first):len(first)], other(head, 0), load(head))...)
		s.limit = 0
		s.run(t, abort(1, 1), first...)
	}
}

func TestPassingIsTheMoveTooMany(t *testing.T) {
	s := list(t, of(2, 2), 0, 5, 1, word.Word{}, word.Word{Mark: true}, word.Word{Key: 2})
	head := s.at(0)
	linked := func(ver int) uint64 { return bits(t, word.Word{Next: 2, Ver: ver}) }
	first := acts(s.meets(head, 1), []act{cas(head, linked(1))}, s.again(head, 2), []act{s.passes(2)},
		[]act{other(2, bits(t, word.Word{Key: 2, Next: 1})), other(1, bits(t, word.Word{Key: 3}))}, s.goes(2, 1))
	s.run(t, end{Pos{Pred: head, PW: 1}, 1, []int{1}, false}, append(first[:len(first):len(first)], other(head, 1), load(head))...)
	s.limit = 0
	s.run(t, abort(1, 1), first...)
}

// A try behind which isn't begun anew leaves the moves that there were: in each
// of these, passing node 1 is the third one of two nodes.
func TestMovesAreKeptBehindATry(t *testing.T) {
	s := list(t, of(2, 2), 0, 5, 2, word.Word{}, word.Word{Key: 1}, word.Word{Key: 2})
	head, is := s.at(0), other(1, s.words[1])
	back := func(ver int) act { return other(2, bits(t, word.Word{Key: 2, Next: 1, Ver: ver})) }
	gone := func(by int) act { return other(1, bits(t, word.Word{Key: 1, Mark: true, Claim: by})) }
	first := acts(s.goes(head, 1), s.goes(1, 2), []act{back(0)})
	last := []act{s.passes(1), other(head, 0), load(head)}
	for _, try := range [][]act{
		acts([]act{gone(0)}, s.meets(2, 1), []act{back(9), lost(2, bits(t, word.Word{Key: 2, Ver: 1})), is}, s.meets(2, 1)),
		acts([]act{gone(24)}, s.meets(2, 1), []act{load(1), is}, s.meets(2, 1)),
		acts([]act{load(2), s.guards(1), back(9), load(2)}, s.again(2, 1)),
	} {
		s.limit = 2
		s.run(t, end{pos: Pos{Pred: head}, tries: 2}, acts(first, try, last)...)
		s.limit = 1
		s.run(t, abort(2), acts(first, try, last[:1])...)
	}
}

func TestHeadThatThereIsNot(t *testing.T) {
	s := pair(t, 3)
	for _, head := range []int{-1, -2, -5, 4, 5, 13, 1000, math.MaxInt, math.MinInt} {
		s.head = head
		s.run(t, end{}, load(0))
		if m := s.made(t); len(Nodes(m, s.l, head)) != 0 || len(Keys(m, s.l, head)) != 0 {
			t.Error(head, Nodes(m, s.l, head))
		}
	}
}

// A thread that there isn't finds as others do, but it guards nothing.
func TestThreadThatThereIsNot(t *testing.T) {
	for _, me := range []int{-1, -3, 2, 3, 100, math.MaxInt, math.MinInt} {
		s := list(t, of(2, 3), me, 5, 0, word.Word{}, word.Word{Key: 1}, word.Word{Mark: true}, word.Word{Key: 9})
		m, f := s.made(t), s.finds()
		if n, ok := mem.Run(m, 50, f); n != 13 || !ok {
			t.Error(me, n, ok)
		}
		linked := bits(t, word.Word{Key: 1, Next: 3, Ver: 1})
		f.tells(t, end{Pos{1, linked, 3, s.words[3]}, 0, []int{2}, false})
		want := s.made(t)
		want.Store(1, linked)
		if !m.Same(want) {
			t.Error("another memory:", me)
		}
	}
}

func TestKeyThatThereIsNot(t *testing.T) {
	s := pair(t, 0)
	head := s.at(0)
	for _, s.key = range []int{-1, -1000, math.MinInt} {
		s.run(t, end{pos: Pos{head, s.words[head], 1, s.words[1]}}, s.meets(head, 1)...)
	}
	s.words[2] = bits(t, word.Word{Key: 1023})
	for _, s.key = range []int{1024, 2048, math.MaxInt} {
		s.run(t, end{pos: Pos{Pred: 2, PW: s.words[2]}}, acts(s.goes(head, 1), s.goes(1, 2), []act{load(2)})...)
	}
}

func TestLayoutThatIsNotRight(t *testing.T) {
	s := pair(t, 3)
	for _, l := range []mem.Layout{
		{}, {Threads: 1}, {Nodes: 4}, of(9, 4), of(2, 201), of(-1, 4), of(2, -1), of(2, math.MaxInt),
		of(2, math.MinInt), of(math.MaxInt, math.MaxInt), of(math.MinInt, math.MinInt),
	} {
		m := s.made(t)
		for _, head := range []int{-1, 0, 3, 4, math.MaxInt, math.MinInt} {
			f := New(l, 0, head, 5, 3)
			if !follow(t, m, f, load(0)) || !f.Step(nil) {
				t.Error(l, head)
			}
			f.tells(t, end{})
			if len(Nodes(m, l, head)) != 0 || len(Keys(m, l, head)) != 0 {
				t.Error(l, head, Nodes(m, l, head))
			}
		}
		if !m.Same(s.made(t)) {
			t.Error("another memory:", l)
		}
	}
}

func TestMemoryThatIsNotThere(t *testing.T) {
	s := pair(t, 3)
	f := s.finds()
	if n, ok := mem.Run(nil, 9, f); n != 1 || !ok {
		t.Error(n, ok)
	}
	f.tells(t, end{pos: Pos{Pred: s.at(0)}})
	if len(Nodes(nil, s.l, 0)) != 0 || len(Keys(nil, s.l, 0)) != 0 {
		t.Error("nodes of no memory")
	}
}

// The next of a word may be an address that there isn't: what is there is 0.
func TestNextThatThereIsNot(t *testing.T) {
	for _, next := range []int{24, 300, 511} {
		s := scene{l: of(2, 4), me: 0, key: 5}
		head := s.at(0)
		s.words = map[int]uint64{head: bits(t, word.Word{Next: next})}
		s.run(t, end{pos: Pos{Pred: next}}, append(s.goes(head, next), load(next))...)
		s.key = 0
		s.run(t, end{pos: Pos{head, s.words[head], next, 0}}, s.meets(head, next)...)
	}
}

// Of a memory that has fewer words than the layout says, there are none of the
// addresses behind them.
func TestMemoryThatIsTooSmall(t *testing.T) {
	m, e := mem.New(of(1, 1))
	if e != api.OK {
		t.Fatal(e)
	}
	f := New(most(), 7, 0, 5, 0)
	if !follow(t, m, f, load(most().Head(0))) {
		t.Error("not the end")
	}
	m.Store(2, bits(t, word.Word{Key: 1, Next: 2}))
	f = New(of(8, 1), 7, 0, 5, 0)
	s := scene{l: of(8, 1), me: 7}
	if !follow(t, m, f, acts(s.goes(2, 2), s.goes(2, 2))...) {
		t.Error("not the end")
	}
	f.tells(t, abort(1))
}

func TestMachineEmbedsTheLayoutAndThePosition(t *testing.T) {
	s := pair(t, 0)
	m, f := s.made(t), s.finds()
	if f.Layout != s.l || f.Threads != 2 || f.Nodes != 4 || f.Desc(1) != s.l.Desc(1) {
		t.Error(f.Layout)
	}
	mem.Run(m, 50, f)
	if f.Pred != f.Pos.Pred || f.PW != f.Pos.PW || f.Curr != f.Pos.Curr || f.CW != f.Pos.CW || f.Curr != 2 {
		t.Error(f.Pos)
	}
}

func TestStepBehindTheLastDoesNothing(t *testing.T) {
	for _, s := range []scene{pair(t, 0), marked(t, 2, 3), round(t, 3, 1), {l: of(2, 4), head: 9}} {
		m, f := s.made(t), s.finds()
		if _, ok := mem.Run(m, 99, f); !ok {
			t.Fatal(s)
		}
		want := end{f.Pos, f.Tries, f.Unlinked, f.Aborted}
		was := m.Actions()
		m.Store(s.l.Head(0), 77)
		for range 5 {
			if !f.Step(m) || !f.Step(nil) {
				t.Error("not the end")
			}
		}
		if m.Actions() != was+1 {
			t.Error(m.Actions() - was)
		}
		f.tells(t, want)
	}
}

// What was never made by a call of the package works too: it has no head.
func TestMachineThatWasNotMade(t *testing.T) {
	s := pair(t, 0)
	m, f := s.made(t), &Find{}
	if !follow(t, m, f, load(0)) || !f.Step(m) || !m.Same(s.made(t)) {
		t.Error("not the end")
	}
	f.tells(t, end{})
}

func TestTwoMachinesShareNothing(t *testing.T) {
	s := marked(t, 3, 0)
	one, two := s.finds(), s.finds()
	n, ok := mem.Run(s.made(t), 50, one)
	k, both := mem.Run(s.made(t), 50, two)
	if n != 16 || k != n || !ok || !both {
		t.Error(n, k, ok, both)
	}
	one.Unlinked[0] = 99
	two.tells(t, end{Pos{s.at(0), two.PW, 4, s.words[4]}, 0, []int{1, 2, 3}, false})
}
