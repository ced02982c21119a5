package find

import (
	"slices"
	"testing"

	"sherpa/api"
	"sherpa/mem"
	"sherpa/word"
)

// has asks which nodes and keys a list has, without an action.
func (s scene) has(t *testing.T, nodes, keys []int) {
	t.Helper()
	m := s.made(t)
	was := m.Last()
	if l := Nodes(m, s.l, s.head); !slices.Equal(l, nodes) {
		t.Error("nodes", l, "want", nodes)
	}
	if l := Keys(m, s.l, s.head); !slices.Equal(l, keys) {
		t.Error("keys", l, "want", keys)
	}
	if m.Actions() != 0 || m.Last() != was || !m.Same(s.made(t)) {
		t.Error("an action", m.Last())
	}
}

// linked is a scene in which each of these nodes has the next one as its next;
// its key is ten times its number, and the head is the first one.
func linked(t *testing.T, l mem.Layout, head int, nodes ...int) scene {
	t.Helper()
	s := scene{l: l, head: head, words: map[int]uint64{}}
	at := 0
	for _, next := range append(nodes, 0) {
		if _, ok := s.words[s.at(at)]; !ok {
			s.words[s.at(at)] = bits(t, word.Word{Key: min(10*at, 1023), Next: next})
		}
		at = next
	}
	return s
}

func TestNodesInOrder(t *testing.T) {
	for head := range api.Heads {
		linked(t, of(1, 6), head).has(t, nil, nil)
		linked(t, of(1, 6), head, 4).has(t, []int{4}, []int{40})
		linked(t, of(3, 6), head, 4, 1, 6, 2).has(t, []int{4, 1, 6, 2}, []int{40, 10, 60, 20})
		linked(t, of(8, 6), head, 6, 5, 4, 3, 2, 1).has(t, []int{6, 5, 4, 3, 2, 1}, []int{60, 50, 40, 30, 20, 10})
	}
}

func TestAllNodes(t *testing.T) {
	var nodes, keys []int
	for node := api.MaxNodes; node > 0; node-- {
		nodes, keys = append(nodes, node), append(keys, min(10*node, 1023))
	}
	linked(t, most(), 3, nodes...).has(t, nodes, keys)
	linked(t, most(), 2, append(slices.Clone(nodes), 200)...).has(t, nodes, keys)
}

func TestListsThatComeRound(t *testing.T) {
	linked(t, of(1, 4), 0, 3, 3).has(t, []int{3}, []int{30})
	linked(t, of(1, 4), 1, 3, 1, 3).has(t, []int{3, 1}, []int{30, 10})
	linked(t, of(1, 4), 2, 4, 3, 2, 1, 4).has(t, []int{4, 3, 2, 1}, []int{40, 30, 20, 10})
	linked(t, of(1, 4), 3, 2, 4, 1, 4).has(t, []int{2, 4, 1}, []int{20, 40, 10})
	linked(t, of(1, 4), 3, 2, 4, 1, 1).has(t, []int{2, 4, 1}, []int{20, 40, 10})
}

// A list goes as far as its nodes are nodes, whatever the words behind say.
func TestListsThatLeaveTheNodes(t *testing.T) {
	l := of(2, 4)
	for _, next := range []int{5, l.Head(0), l.Head(3), l.Life(1), l.Counter(), l.Size(), 300, 511} {
		linked(t, l, 0, next, 1).has(t, nil, nil)
		linked(t, l, 1, 2, next, 1).has(t, []int{2}, []int{20})
		linked(t, l, 2, 4, 3, 1, next, 2).has(t, []int{4, 3, 1}, []int{40, 30, 10})
	}
}

func TestMarkedNodesHaveNoKeys(t *testing.T) {
	all := []int{4, 1, 6, 2}
	for which := range 16 {
		s := linked(t, of(2, 6), 0, all...)
		var keys []int
		for i, node := range all {
			if which>>i&1 == 1 {
				s.words[node] = bits(t, word.Get(s.words[node]).Marked())
			} else {
				keys = append(keys, 10*node)
			}
		}
		s.has(t, all, keys)
	}
}

// Claims and versions don't count, nor does a mark of the head.
func TestNodesOfAnyOtherBits(t *testing.T) {
	s := linked(t, of(2, 6), 1, 4, 1)
	for _, addr := range []int{s.at(0), 4, 1} {
		for _, more := range []uint64{above, 1 << 43, 5 << 20, 262143 << 25} {
			s.words[addr] |= more
			s.has(t, []int{4, 1}, []int{40, 10})
		}
	}
	s.words[s.at(0)] |= 1 << 19
	s.has(t, []int{4, 1}, []int{40, 10})
	s.words[1] |= 1 << 19
	s.has(t, []int{4, 1}, []int{40})
}

func TestKeysThatAreTheSame(t *testing.T) {
	s := list(t, of(1, 4), 0, 0, 0, word.Word{}, word.Word{Key: 7}, word.Word{Key: 7}, word.Word{}, word.Word{Key: 1023})
	s.has(t, []int{1, 2, 3, 4}, []int{7, 7, 0, 1023})
}

// The layout that is handed in says what is a node, and where the heads are.
func TestNodesOfAnotherLayout(t *testing.T) {
	m := linked(t, of(1, 6), 0, 2, 5, 3).made(t)
	m.Store(of(1, 4).Head(1), bits(t, word.Word{Next: 2}))
	if l := Nodes(m, of(1, 4), 1); !slices.Equal(l, []int{2}) {
		t.Error(l)
	}
	if l := Nodes(m, most(), 0); len(l) != 0 {
		t.Error(l)
	}
}

func TestListsOfTheirOwn(t *testing.T) {
	s := linked(t, of(1, 6), 0, 4, 1)
	m := s.made(t)
	Nodes(m, s.l, 0)[0], Keys(m, s.l, 0)[0] = 99, 99
	if l := Nodes(m, s.l, 0); !slices.Equal(l, []int{4, 1}) || !slices.Equal(Keys(m, s.l, 0), []int{40, 10}) {
		t.Error(l)
	}
}
