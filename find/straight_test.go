package find

import (
	"slices"
	"testing"

	"sherpa/mem"
	"sherpa/word"
)

// dice are numbers that look as if there were no order in them.
type dice uint64

// roll is a number below n.
func (d *dice) roll(n int) int {
	*d = *d*6364136223846793005 + 1442695040888963407
	return int(uint64(*d) >> 33 % uint64(n))
}

// straight finds a key as the document tells it, from the first point to the
// last one, with bits taken apart by hand; others act ahead of each action.
type straight struct {
	scene
	m      *mem.Mem
	others func(m *mem.Mem)
	acts   []mem.Action
	told   end
	ways   map[string]int // how often each way was gone
}

func (s *straight) did() { s.acts = append(s.acts, s.m.Last()) }

func (s *straight) load(addr int) uint64 {
	s.others(s.m)
	defer s.did()
	return s.m.Load(addr)
}

func (s *straight) store(addr, x int) {
	s.others(s.m)
	defer s.did()
	s.m.Store(addr, uint64(x))
}

func (s *straight) cas(addr int, old, x uint64) bool {
	s.others(s.m)
	defer s.did()
	return s.m.Cas(addr, old, x)
}

// way notes a way.
func (s *straight) way(name string) { s.ways[name]++ }

// try counts a try; whether it is aborted.
func (s *straight) try() bool {
	s.told.tries++
	if s.told.tries > s.limit {
		s.way("aborted")
		s.told.aborted = true
	}
	return s.told.aborted
}

func keyOf(x uint64) int    { return int(x & 1023) }
func nextOf(x uint64) int   { return int(x >> 10 & 511) }
func markOf(x uint64) bool  { return x>>19&1 == 1 }
func claimOf(x uint64) int  { return int(x >> 20 & 31) }
func verOf(x uint64) uint64 { return x >> 25 & 262143 }

// on is a word with a version that is one more, without bits that aren't its own.
func on(x uint64) uint64 { return x&(1<<25-1) | (verOf(x)+1)&262143<<25 }

// clear is layer 10.
func (s *straight) clear(addr int) {
	x := s.load(addr)
	u := claimOf(x) - 1
	if u < 0 || u >= s.l.Threads {
		s.way("clear nobody's")
		return
	}
	d := s.load(s.l.Desc(u))
	if d>>49&7 == 2 && int(d>>12&511) == addr && d>>21&262143 == verOf(x) {
		s.way("clear proposed")
		s.cas(s.l.Desc(u), d, d&^(3<<62|7<<49)|3<<49)
	}
	s.way("clear")
	s.cas(addr, x, on(x)&^(31<<20))
}

func (s *straight) find() {
	var x, pw, cw uint64
	var curr, moves int
	pred := s.at(0)
one:
	if x = s.load(pred); markOf(x) {
		s.way("1 marked")
		goto anew
	}
	pw, curr = x, nextOf(x)
	if curr == 0 {
		s.way("1 no curr")
		goto end
	}
two:
	s.store(s.l.Slot(s.me, 1), curr)
	if x = s.load(pred); x != pw && markOf(x) {
		s.way("3 another, marked")
		goto anew
	} else if x != pw {
		s.way("3 another")
		if s.try() {
			return
		}
		if pw, curr = x, nextOf(x); curr == 0 {
			s.way("3 no curr")
			goto end
		}
		goto two
	}
	cw = s.load(curr)
	if !markOf(cw) && keyOf(cw) >= s.key {
		s.way("4 the end")
		s.told.pos.Curr, s.told.pos.CW = curr, cw
		goto end
	}
	if !markOf(cw) {
		s.way("6")
		s.store(s.l.Slot(s.me, 0), curr)
		pred = curr
		if moves++; moves > s.l.Nodes {
			s.way("6 a move too many")
			goto anew
		}
		goto one
	}
	if claimOf(cw) != 0 || claimOf(pw) != 0 {
		if claimOf(cw) != 0 {
			s.way("4 clear curr")
			s.clear(curr)
		} else {
			s.way("4 clear pred")
			s.clear(pred)
		}
		if s.try() {
			return
		}
		goto one
	}
	x = on(pw)&^(511<<10) | uint64(nextOf(cw))<<10
	if !s.cas(pred, pw, x) {
		s.way("5 not done")
		if s.try() {
			return
		}
		goto one
	}
	s.way("5 done")
	s.told.unlinked = append(s.told.unlinked, curr)
	if moves++; moves > s.l.Nodes {
		s.way("5 a move too many")
		goto anew
	}
	if pw, curr = x, nextOf(x); curr == 0 {
		s.way("5 no curr")
		goto end
	}
	goto two
anew:
	if s.try() {
		return
	}
	pred, moves = s.at(0), 0
	goto one
end:
	s.told.pos.Pred, s.told.pos.PW = pred, pw
}

// stored is a word that others store: mostly one of the list's, at times any bits.
func (d *dice) stored(t *testing.T, l mem.Layout) uint64 {
	t.Helper()
	if d.roll(20) == 0 {
		return uint64(d.roll(1<<31))<<33 ^ uint64(d.roll(1<<31))
	}
	w := word.Word{Key: d.roll(9), Next: d.roll(l.Nodes + 2), Ver: d.roll(3)}
	w.Mark = d.roll(3) == 0
	if d.roll(4) == 0 {
		w.Claim = d.roll(l.Threads + 2)
	}
	more := uint64(0)
	if d.roll(8) == 0 {
		more = 1 << (43 + d.roll(21))
	}
	return bits(t, w) | more
}

// acted lets others store at times, in any word.
func (d *dice) acted(t *testing.T, s scene, often int) func(m *mem.Mem) {
	return func(m *mem.Mem) {
		for d.roll(100) < often {
			addr := 1 + d.roll(s.l.Nodes+1)
			if addr > s.l.Nodes {
				addr = s.at(0)
			}
			switch d.roll(8) {
			case 0:
				m.Store(s.l.Desc(d.roll(s.l.Threads)), uint64(2<<49|d.roll(5)<<12|d.roll(3)<<21|d.roll(2)<<62))
			case 1:
				m.Store(d.roll(m.Size()+3)-1, d.stored(t, s.l))
			case 2:
				m.Store(addr, m.Peek(addr)^1<<d.roll(64))
			default:
				m.Store(addr, d.stored(t, s.l))
			}
		}
	}
}

// scene is one with any words.
func (d *dice) scene(t *testing.T) scene {
	t.Helper()
	s := scene{l: of(1+d.roll(3), 1+d.roll(4)), head: d.roll(4), key: d.roll(10) - 1, limit: d.roll(7) - 1}
	s.me, s.words = d.roll(s.l.Threads), map[int]uint64{}
	for node := range s.l.Nodes + 1 {
		s.words[s.at(node)] = d.stored(t, s.l)
	}
	for u := range s.l.Threads {
		s.words[s.l.Desc(u)] = uint64(2<<49 | d.roll(5)<<12 | d.roll(3)<<21)
	}
	return s
}

// Whatever the words are, and whatever others store between the steps, the
// machine does the very actions that the document tells, and tells the same.
func TestWhateverOthersWrite(t *testing.T) {
	ways := map[string]int{}
	for seed := range 40000 {
		d := dice(seed)
		s := d.scene(t)
		often, same := seed%5*15, d
		x := &straight{scene: s, m: s.made(t), others: d.acted(t, s, often), ways: ways}
		x.find()
		m, f, others := s.made(t), s.finds(), same.acted(t, s, often)
		for i, want := range x.acts {
			others(m)
			was := m.Actions()
			if ended := f.Step(m); m.Actions() != was+1 || m.Last() != want || ended != (i == len(x.acts)-1) {
				t.Fatalf("seed %d, action %d: %+v, want %+v of %d, end %v", seed, i, m.Last(), want, len(x.acts), ended)
			}
		}
		f.tells(t, x.told)
		if !m.Same(x.m) || t.Failed() {
			t.Fatal("seed", seed)
		}
	}
	for _, way := range []string{
		"1 marked", "1 no curr", "3 another", "3 another, marked", "3 no curr", "4 the end", "4 clear curr", "4 clear pred",
		"clear", "clear nobody's", "clear proposed", "5 done", "5 not done", "5 no curr", "5 a move too many",
		"6", "6 a move too many", "aborted",
	} {
		if ways[way] < 50 {
			t.Error(way, "was gone", ways[way], "times:", ways)
		}
	}
}

// Step by step no more is changed than a machine that finds may change.
func TestNothingElseIsChangedWhateverOthersWrite(t *testing.T) {
	for seed := range 4000 {
		d := dice(seed + 1<<40)
		s := d.scene(t)
		m, f, others := s.made(t), s.finds(), d.acted(t, s, 30)
		for i, ended := 0, false; !ended; i++ {
			if others(m); i > 2000 {
				t.Fatal("seed", seed, "no end")
			}
			before := m.Copy()
			ended = f.Step(m)
			if why := changes(before, m, s.l, s.me); why != "" {
				t.Fatal("seed", seed, "step", i, why)
			}
		}
	}
}

// changes tells what a step has changed that it may not.
func changes(before, m *mem.Mem, l mem.Layout, me int) string {
	a := m.Last()
	rest := m.Copy()
	rest.Store(a.Addr, before.Peek(a.Addr))
	switch was, is := before.Peek(a.Addr), m.Peek(a.Addr); {
	case !rest.Same(before):
		return "more than one word"
	case was == is || a.Addr == l.Slot(me, 0) || a.Addr == l.Slot(me, 1):
		return ""
	case a.Kind != mem.Cas:
		return "not by a Cas"
	case was>>49&7 == 2 && is == was&^(3<<62|7<<49)|3<<49 && slices.Contains(descs(l), a.Addr):
		return ""
	case claimOf(was) != 0 && is == on(was)&^(31<<20):
		return ""
	case claimOf(was) != 0 || markOf(was):
		return "a word that is claimed or marked"
	case is != on(was)&^(511<<10)|uint64(nextOf(is))<<10:
		return "more than the next"
	}
	return ""
}

// descs is where the descriptors are.
func descs(l mem.Layout) []int {
	var d []int
	for u := range l.Threads {
		d = append(d, l.Desc(u))
	}
	return d
}
