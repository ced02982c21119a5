package find

import (
	"fmt"
	"slices"
	"testing"

	"sherpa/clear"
	"sherpa/desc"
	"sherpa/mem"
	"sherpa/word"
)

// player is a machine that can be copied, and told from others by its state.
type player interface {
	mem.Machine
	copied() player
	state() string
}

// finder is a machine that finds.
type finder struct{ *Find }

func (f finder) copied() player {
	c := *f.Find
	c.Unlinked = slices.Clone(c.Unlinked)
	if c.clear != nil {
		other := *c.clear
		c.clear = &other
	}
	return finder{&c}
}

func (f finder) state() string {
	c, cleared := *f.Find, clear.Clear{}
	if c.clear != nil && c.at == atClear {
		cleared = *c.clear
	}
	c.clear = nil
	return fmt.Sprint(c, cleared)
}

// clearer is a machine that clears.
type clearer struct{ *clear.Clear }

func (c clearer) copied() player { other := *c.Clear; return clearer{&other} }
func (c clearer) state() string  { return fmt.Sprint(*c.Clear) }

// marker is a machine that marks a node that has no claim, if it isn't marked.
type marker struct {
	node   int
	x      uint64
	loaded bool
}

func (k *marker) copied() player { other := *k; return &other }
func (k *marker) state() string  { return fmt.Sprint(*k) }

func (k *marker) Step(m *mem.Mem) bool {
	if k.loaded = !k.loaded; k.loaded {
		k.x = m.Load(k.node)
		return markOf(k.x) || claimOf(k.x) != 0
	}
	return m.Cas(k.node, k.x, on(k.x)|1<<19)
}

// pusher is a machine that links a node of its own ahead of all others.
type pusher struct {
	head, node, key, at int
	x                   uint64
}

func (p *pusher) copied() player { other := *p; return &other }
func (p *pusher) state() string  { return fmt.Sprint(*p) }

func (p *pusher) Step(m *mem.Mem) bool {
	switch p.at = p.at%3 + 1; p.at {
	case 1:
		p.x = m.Load(p.head)
	case 2:
		m.Store(p.node, uint64(p.key|nextOf(p.x)<<10))
	case 3:
		return m.Cas(p.head, p.x, on(p.x)&^(511<<10)|uint64(p.node)<<10)
	}
	return false
}

// mix is machines over one memory.
type mix struct {
	scene
	m       *mem.Mem
	players []player
	done    []bool
}

// mixed is machines over a scene's memory.
func mixed(t *testing.T, s scene, players ...player) mix {
	t.Helper()
	return mix{scene: s, m: s.made(t), players: players, done: make([]bool, len(players))}
}

// finder is a machine that finds in the mix's list.
func (s scene) finder(me, key, limit int) player { return finder{New(s.l, me, s.head, key, limit)} }

// clears is a machine that clears a node.
func (s scene) clears(node int) player { return clearer{clear.New(s.l, s.at(node))} }

// step is the mix behind a step of one machine.
func (x mix) step(t *testing.T, i int) mix {
	t.Helper()
	before, y := x.m, x
	y.m, y.players, y.done = x.m.Copy(), slices.Clone(x.players), slices.Clone(x.done)
	y.players[i] = x.players[i].copied()
	y.done[i] = y.players[i].Step(y.m)
	if f, ok := y.players[i].(finder); ok {
		if why := changes(before, y.m, x.l, f.me); why != "" {
			t.Fatal(why, y.m.Last())
		}
		y.unlinks(t, before, f)
	}
	return y
}

// unlinks asks whether a Cas that was done on a word without a claim has just
// taken one marked node out of the list.
func (x mix) unlinks(t *testing.T, before *mem.Mem, f finder) {
	t.Helper()
	a := x.m.Last()
	if a.Kind != mem.Cas || !a.Ok || claimOf(a.Old) != 0 || slices.Contains(descs(x.l), a.Addr) {
		return
	}
	out, was := nextOf(a.Old), Nodes(before, x.l, x.head)
	want := slices.DeleteFunc(slices.Clone(was), func(node int) bool { return node == out })
	if !word.Get(x.m.Peek(out)).Mark || len(want) != len(was)-1 || !slices.Equal(want, Nodes(x.m, x.l, x.head)) {
		t.Fatal("from", was, "without", out, "to", Nodes(x.m, x.l, x.head))
	}
	if l := f.Unlinked; len(l) == 0 || l[len(l)-1] != out {
		t.Fatal("unlinked", l, "without", out)
	}
}

// state is what tells the mix from others.
func (x mix) state() string {
	words := make([]uint64, x.l.Size())
	for addr := range words {
		words[addr] = x.m.Peek(addr)
	}
	s := fmt.Sprint(words, x.done)
	for _, p := range x.players {
		s += p.state()
	}
	return s
}

// walk goes all ways from a mix, and asks each end; how many states there were.
func (x mix) walk(t *testing.T, seen map[string]bool, ask func(x mix)) int {
	t.Helper()
	if s := x.state(); seen[s] {
		return len(seen)
	} else {
		seen[s] = true
	}
	if !slices.Contains(x.done, false) {
		ask(x)
	}
	for i, done := range x.done {
		if !done {
			x.step(t, i).walk(t, seen, ask)
		}
	}
	return len(seen)
}

// unmarked is those of some nodes that aren't marked.
func unmarked(m *mem.Mem, nodes []int) []int {
	return slices.DeleteFunc(slices.Clone(nodes), func(node int) bool { return word.Get(m.Peek(node)).Mark })
}

// same asks whether nothing has changed but what machines that find, and
// machines that clear, may change.
func (x mix) same(t *testing.T) {
	t.Helper()
	first := x.made(t)
	was, is := Nodes(first, x.l, x.head), Nodes(x.m, x.l, x.head)
	if !slices.Equal(unmarked(first, was), unmarked(x.m, is)) {
		t.Fatal("the list", was, "is", is)
	}
	for addr := range x.l.Size() {
		a, b := first.Peek(addr), x.m.Peek(addr)
		v, w := word.Get(a), word.Get(b)
		switch {
		case a == b || addr >= x.l.Slot(0, 0) && addr < x.l.Ticket(0):
		case slices.Contains(descs(x.l), addr):
			if desc.Get(a).With(desc.Won) != desc.Get(b) || !desc.Get(a).Is(desc.Proposed) {
				t.Fatal("descriptor", desc.Get(a), "is", desc.Get(b))
			}
		case !x.l.Node(addr) && addr != x.at(0):
			t.Fatal("address", addr, "was", a, "is", b)
		case v.Key != w.Key || v.Mark != w.Mark || w.Claim != 0 || v.Mark && v.Next != w.Next:
			t.Fatal("word", addr, "was", v, "is", w)
		}
	}
	x.once(t, was, is)
}

// once asks whether each node that has left the list was marked, and was
// unlinked by just one machine, and no other one was.
func (x mix) once(t *testing.T, was, is []int) {
	t.Helper()
	var all []int
	for _, p := range x.players {
		if f, ok := p.(finder); ok {
			all = append(all, f.Unlinked...)
		}
	}
	slices.Sort(all)
	gone := slices.DeleteFunc(slices.Clone(was), func(node int) bool { return slices.Contains(is, node) })
	slices.Sort(gone)
	if !slices.Equal(all, gone) {
		t.Fatal("unlinked", all, "gone", gone)
	}
}

// found asks whether each machine's position is where its key is, or would be.
func (x mix) found(t *testing.T) {
	t.Helper()
	for _, p := range x.players {
		f, ok := p.(finder)
		if !ok {
			continue
		}
		pred, curr := x.at(0), 0
		for _, node := range unmarked(x.m, Nodes(x.m, x.l, x.head)) {
			if word.Get(x.m.Peek(node)).Key >= f.key {
				curr = node
				break
			}
			pred = node
		}
		switch {
		case f.Aborted && f.Pos == (Pos{}) && f.Tries == f.limit+1:
		case f.Aborted || f.Tries > f.limit || f.Pred != pred || f.Curr != curr || nextOf(f.PW) != curr:
			t.Fatalf("found %+v, %d tries, want %d and %d", f.Pos, f.Tries, pred, curr)
		case curr == 0 && f.CW != 0, curr != 0 && keyOf(f.CW) != keyOf(x.m.Peek(curr)):
			t.Fatal("word", f.CW, "of", curr)
		}
	}
}

// all mixes machines in all orders, behind each of which nothing has changed
// but what may; there are so many states at least.
func (s scene) all(t *testing.T, least int, players ...player) {
	t.Helper()
	n := mixed(t, s, players...).walk(t, map[string]bool{}, func(x mix) { x.same(t); x.found(t) })
	t.Log(n, "states")
	if n < least {
		t.Error(n, "states")
	}
}

// twoMarked is a list of four nodes, two of which are marked, one behind the other.
func twoMarked(t *testing.T) scene {
	t.Helper()
	return list(t, of(3, 4), 0, 0, 0, word.Word{Ver: 262142}, word.Word{Key: 2},
		word.Word{Key: 4, Mark: true}, word.Word{Key: 6, Mark: true, Ver: 3}, word.Word{Key: 8})
}

func TestSomeFindInOneList(t *testing.T) {
	s := twoMarked(t)
	for limit := range 3 {
		for _, keys := range [][2]int{{8, 8}, {5, 9}, {2, 6}} {
			s.all(t, 100, s.finder(0, keys[0], limit), s.finder(2, keys[1], limit))
		}
	}
}

func TestThreeFindInOneList(t *testing.T) {
	s := list(t, of(3, 3), 0, 0, 0, word.Word{}, word.Word{Key: 2, Mark: true}, word.Word{Key: 4})
	s.all(t, 1000, s.finder(0, 4, 1), s.finder(1, 3, 1), s.finder(2, 9, 0))
}

// Marked nodes that are claimed, and a pred that is, are cleared by whoever
// comes by, and by who clears besides.
func TestSomeFindAndClearInOneList(t *testing.T) {
	for _, by := range [][3]int{{0, 1, 2}, {1, 2, 0}, {3, 0, 0}, {0, 2, 2}, {0, 5, 0}} {
		s := twoMarked(t)
		for node := 1; node <= 3; node++ {
			s.words[node] |= uint64(by[node-1]) << 20
			if u := by[node-1] - 1; u >= 0 && u < 3 {
				s.proposes(t, u, node)
			}
		}
		s.all(t, 80, s.finder(0, 8, 2), s.clears(2), s.clears(1))
		s.all(t, 300, s.finder(0, 8, 2), s.finder(1, 7, 1))
	}
}

func TestTwoFindAndOneClearsInOneList(t *testing.T) {
	s := list(t, of(2, 3), 3, 0, 0, word.Word{}, word.Word{Key: 2, Mark: true, Claim: 2, Ver: 5}, word.Word{Key: 4})
	s.proposes(t, 1, 1)
	s.all(t, 1000, s.finder(0, 3, 1), s.finder(1, 4, 1), s.clears(1))
}

// While others mark nodes and link nodes, no node that isn't marked leaves the
// list, and what has left it was unlinked by just one machine.
func TestSomeFindWhileOthersChangeTheList(t *testing.T) {
	s := list(t, of(2, 4), 0, 0, 0, word.Word{}, word.Word{Key: 3}, word.Word{Key: 5}, word.Word{Key: 8})
	for _, c := range []struct {
		least   int
		keys    []int
		players []player
	}{
		{200, []int{1, 3, 8}, []player{s.finder(0, 5, 2), &marker{node: 2}, &pusher{head: s.at(0), node: 4, key: 1}}},
		{200, []int{1, 3, 8}, []player{s.finder(0, 9, 1), &marker{node: 2}, &pusher{head: s.at(0), node: 4, key: 1}}},
		{2000, []int{8}, []player{s.finder(0, 9, 2), s.finder(1, 8, 0), &marker{node: 2}, &marker{node: 1}}},
		{2000, []int{1, 3, 5}, []player{s.finder(0, 5, 0), s.finder(1, 9, 0), &marker{node: 3}, &pusher{head: s.at(0), node: 4, key: 1}}},
	} {
		n := mixed(t, s, c.players...).walk(t, map[string]bool{}, func(x mix) {
			if l := Keys(x.m, x.l, x.head); !slices.Equal(l, c.keys) {
				t.Fatal(l, "want", c.keys)
			}
			x.once(t, []int{1, 2, 3, 4}, append(Nodes(x.m, x.l, x.head), x.apart()...))
		})
		t.Log(n, "states")
		if n < c.least {
			t.Error(n, "states")
		}
	}
}

// apart is node 4, if nobody has linked it.
func (x mix) apart() []int {
	for _, p := range x.players {
		if _, ok := p.(*pusher); ok {
			return nil
		}
	}
	return []int{4}
}
