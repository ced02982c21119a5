package guard

import (
	"math"
	"slices"
	"testing"

	"sherpa/api"
	"sherpa/life"
	"sherpa/mem"
)

// of is a layout of some threads and nodes.
func of(threads, nodes int) mem.Layout { return mem.Layout{Threads: threads, Nodes: nodes} }

// strangers is numbers that are no node's of a layout, and not 0.
func strangers(l mem.Layout) []int {
	return []int{-1, -2, l.Nodes + 1, l.Nodes + 2, 1000, -1000, math.MaxInt, math.MinInt, math.MinInt + 1}
}

// wrong is layouts that aren't right.
func wrong() []mem.Layout {
	return []mem.Layout{
		{}, {Threads: 1}, {Nodes: 3}, {Threads: 9, Nodes: 3}, {Threads: 2, Nodes: 201}, {Threads: -1, Nodes: 3},
		{Threads: 2, Nodes: -1}, {Threads: 2, Nodes: math.MaxInt}, {Threads: 2, Nodes: math.MinInt},
		{Threads: math.MaxInt, Nodes: math.MaxInt}, {Threads: math.MinInt, Nodes: math.MinInt},
		{Threads: math.MaxInt / 2, Nodes: 3}, {Threads: math.MaxInt/2 + 1, Nodes: 3},
	}
}

// made is memory of which all nodes are taken, and the slots are these.
func made(t *testing.T, l mem.Layout, slots ...int) *mem.Mem {
	t.Helper()
	words := make([]uint64, l.Size())
	for node := 1; node <= l.Nodes; node++ {
		words[l.Life(node)] = 1
	}
	for i, x := range slots {
		words[l.Slot(0, 0)+i] = uint64(x)
	}
	m, e := mem.New(l, words...)
	if e != api.OK {
		t.Fatal(l, e)
	}
	return m
}

// load, add and store are actions that are to be seen.
func load(addr, is int) mem.Action {
	return mem.Action{Kind: mem.Load, Addr: addr, Old: uint64(is), New: uint64(is), Ok: true}
}

func add(l mem.Layout, node int, is uint64) mem.Action {
	return mem.Action{Kind: mem.Add, Addr: l.Life(node), Old: is, New: is + 1, Ok: true}
}

func store(addr, was int) mem.Action {
	return mem.Action{Kind: mem.Store, Addr: addr, Old: uint64(was), Ok: true}
}

// seen is the actions of a machine till its end; each of its steps is to be one.
func seen(t *testing.T, m *mem.Mem, x mem.Machine) []mem.Action {
	t.Helper()
	var l []mem.Action
	for range 1000 {
		was := m.Actions()
		ended := x.Step(m)
		if m.Actions() != was+1 {
			t.Fatal("no single action in a step:", m.Actions()-was)
		}
		if l = append(l, m.Last()); ended {
			return l
		}
	}
	t.Fatal("no end")
	return nil
}

// loads is the loads of all slots, which are these.
func loads(l mem.Layout, slots ...int) []mem.Action {
	var want []mem.Action
	for i := range 2 * l.Threads {
		is := 0
		if i < len(slots) {
			is = slots[i]
		}
		want = append(want, load(l.Slot(i/2, i%2), is))
	}
	return want
}

// parted is which of some nodes are in a list, and which aren't.
func parted(list, nodes []int) (in, out []int) {
	for _, node := range nodes {
		if slices.Contains(list, node) {
			in = append(in, node)
		} else {
			out = append(out, node)
		}
	}
	return in, out
}

// told asks what a scan told.
func told(t *testing.T, s *Scan, kept, freed []int) {
	t.Helper()
	if !slices.Equal(s.Kept, kept) || !slices.Equal(s.Freed, freed) {
		t.Error("kept", s.Kept, "want", kept, "freed", s.Freed, "want", freed)
	}
}

// check scans memory with these slots for nodes, alone.
func check(t *testing.T, l mem.Layout, slots, nodes, kept, freed []int) {
	t.Helper()
	m, want := made(t, l, slots...), made(t, l, slots...)
	s := New(l, nodes...)
	actions := loads(l, slots...)
	for _, node := range freed {
		actions = append(actions, add(l, node, want.Add(l.Life(node), 1)))
	}
	if got := seen(t, m, s); !slices.Equal(got, actions) || len(got) != Steps(l, len(freed)) {
		t.Error(slots, nodes, got, "want", actions)
	}
	if !m.Same(want) {
		t.Error(slots, nodes, "another memory")
	}
	told(t, s, kept, freed)
}

func TestScanAlone(t *testing.T) {
	l := of(2, 4)
	check(t, l, []int{1, 0, 0, 3}, []int{4, 3, 2, 1}, []int{3, 1}, []int{4, 2})
	check(t, l, []int{2, 0, 4, 0}, []int{1, 2, 3, 4}, []int{2, 4}, []int{1, 3})
	check(t, l, []int{0, 2, 0, 4}, []int{4, 2, 3, 1}, []int{4, 2}, []int{3, 1})
	check(t, l, []int{1, 2, 0, 0}, []int{3, 2}, []int{2}, []int{3})
	check(t, l, []int{0, 0, 1, 2}, []int{3, 2}, []int{2}, []int{3})
	check(t, l, []int{0, 0, 0, 2}, []int{2}, []int{2}, nil)
	check(t, l, []int{2, 0, 0, 0}, []int{2}, []int{2}, nil)
	check(t, l, []int{3, 3, 3, 3}, []int{1, 2, 3, 4}, []int{3}, []int{1, 2, 4})
}

func TestScanEdges(t *testing.T) {
	l := of(2, 4)
	check(t, l, nil, nil, nil, nil)
	check(t, l, []int{1, 2, 3, 4}, nil, nil, nil)
	check(t, l, nil, []int{2, 4, 1, 3}, nil, []int{2, 4, 1, 3})
	check(t, l, []int{1, 2, 3, 4}, []int{2, 4, 1, 3}, []int{2, 4, 1, 3}, nil)
	check(t, of(1, 1), nil, []int{1}, nil, []int{1})
	check(t, of(1, 1), []int{0, 1}, []int{1}, []int{1}, nil)
	check(t, of(1, 3), []int{3, 1}, []int{1, 2, 3}, []int{1, 3}, []int{2})
}

func TestScanOfTheSameNodeTwice(t *testing.T) {
	l := of(2, 4)
	check(t, l, []int{1}, []int{1, 2, 1}, []int{1, 1}, []int{2})
	check(t, l, []int{1}, []int{2, 1, 2}, []int{1}, []int{2, 2})
}

func TestScanOfTheMost(t *testing.T) {
	l := of(api.MaxThreads, api.MaxNodes)
	var slots, nodes []int
	for i := range api.MaxThreads * api.Slots {
		slots = append(slots, 3*i+1)
	}
	for node := api.MaxNodes; node > 0; node-- {
		nodes = append(nodes, node)
	}
	kept, freed := parted(slots, nodes)
	if len(kept) != 16 || len(freed) != 184 {
		t.Fatal(len(kept), len(freed))
	}
	check(t, l, slots, nodes, kept, freed)
}

// Each of two threads' slots is none or one of three nodes, and each list of
// up to three of these is scanned for.
func TestScanWhateverIsGuarded(t *testing.T) {
	l := of(2, 3)
	for _, nodes := range [][]int{nil, {1}, {3}, {2, 1}, {1, 3}, {1, 2, 3}, {3, 1, 2}} {
		for x := range 4 * 4 * 4 * 4 {
			slots := []int{x & 3, x >> 2 & 3, x >> 4 & 3, x >> 6}
			kept, freed := parted(slots, nodes)
			check(t, l, slots, nodes, kept, freed)
		}
	}
}

func TestScanTellsNothingTillItsEnd(t *testing.T) {
	l := of(1, 4)
	m := made(t, l, 2)
	s := New(l, 1, 2, 3)
	for i, ended := range []bool{false, false, false, true} {
		told(t, s, nil, nil)
		if s.Step(m) != ended {
			t.Error(i)
		}
	}
	told(t, s, []int{2}, []int{1, 3})
}

func TestScanAgain(t *testing.T) {
	l := of(2, 4)
	m := made(t, l, 4, 2, 0, 3)
	a := New(l, 1, 2, 3, 4)
	mem.Run(m, 99, a)
	told(t, a, []int{2, 3, 4}, []int{1})
	mem.Run(m, 99, Drop(l, 0))
	b := New(l, a.Kept...)
	mem.Run(m, 99, b)
	told(t, b, []int{3}, []int{2, 4})
	mem.Run(m, 99, Drop(l, 1))
	c := New(l, b.Kept...)
	if n, ok := mem.Run(m, 99, c); n != 5 || !ok || !slices.Equal(life.Free(m, l), []int{1, 2, 3, 4}) {
		t.Error(n, ok, life.Free(m, l))
	}
	told(t, c, nil, []int{3})
	told(t, b, []int{3}, []int{2, 4})
	told(t, a, []int{2, 3, 4}, []int{1})
}

// A node that is given back can be taken anew.
func TestFreedIsTakenAnew(t *testing.T) {
	l := of(1, 2)
	m := made(t, l, 1)
	mem.Run(m, 99, New(l, 1, 2))
	a := life.New(l, 1)
	if n, ok := mem.Run(m, 99, a); n != 3 || !ok || a.Got != 2 || m.Peek(l.Life(2)) != 3 {
		t.Error(n, ok, a.Got)
	}
}

func TestDrop(t *testing.T) {
	l := of(3, 4)
	for thread := range 3 {
		slots := []int{1, 2, 3, 4, 4, 1}
		m := made(t, l, slots...)
		at := 2 * thread
		want := []mem.Action{store(l.Slot(thread, 0), slots[at]), store(l.Slot(thread, 1), slots[at+1])}
		if got := seen(t, m, Drop(l, thread)); !slices.Equal(got, want) {
			t.Error(thread, got)
		}
		slots[at], slots[at+1] = 0, 0
		if !m.Same(made(t, l, slots...)) {
			t.Error(thread, "another memory")
		}
	}
	m := made(t, l)
	if got := seen(t, m, Drop(l, 2)); !slices.Equal(got, []mem.Action{store(l.Slot(2, 0), 0), store(l.Slot(2, 1), 0)}) {
		t.Error(got)
	}
}

func TestDropOfTheLastThread(t *testing.T) {
	l := of(api.MaxThreads, api.MaxNodes)
	m := made(t, l)
	m.Store(l.Slot(7, 0), 200)
	m.Store(l.Slot(7, 1), 199)
	if !Guarded(m, l, 200) || !Guarded(m, l, 199) {
		t.Error("not guarded")
	}
	if n, ok := mem.Run(m, 9, Drop(l, 7)); n != 2 || !ok || !m.Same(made(t, l)) {
		t.Error(n, ok)
	}
}

// A thread that drops between two steps of a scan has guarded what was loaded
// ahead of that.
func TestDropInTheMiddleOfAScan(t *testing.T) {
	l := of(1, 3)
	for drops, c := range []struct{ kept, freed []int }{
		{nil, []int{1, 2, 3}},
		{[]int{1}, []int{2, 3}},
		{[]int{1, 2}, []int{3}},
		{[]int{1, 2}, []int{3}},
	} {
		m := made(t, l, 1, 2)
		s := New(l, 1, 2, 3)
		mem.Run(m, drops, s)
		mem.Run(m, 9, Drop(l, 0))
		if drops < 3 {
			mem.Run(m, 9, s)
		}
		told(t, s, c.kept, c.freed)
	}
}

// put is somebody's store in a slot.
type put struct{ slot, node int }

// mix is a scan, and others who store in slots: the scan's steps and theirs may
// be mixed in each order.
type mix struct {
	l            mem.Layout
	slots, nodes []int
	puts         []put
}

// walk tries all orders of steps and stores; how many there are. Of each, the
// choices so far (true: a step of the scan) are done anew, since a scan can't
// be copied.
func (x mix) walk(t *testing.T, so ...bool) int {
	t.Helper()
	ended, left := x.run(t, so)
	n := 0
	if !ended {
		n += x.walk(t, append(slices.Clone(so), true)...)
	}
	if left > 0 {
		n += x.walk(t, append(slices.Clone(so), false)...)
	}
	return max(n, 1)
}

// run does these choices, and asks what they led to: whether the scan has
// ended, and how many stores are left.
func (x mix) run(t *testing.T, so []bool) (bool, int) {
	t.Helper()
	m, s := made(t, x.l, x.slots...), New(x.l, x.nodes...)
	slots := append(slices.Clone(x.slots), make([]int, 2*x.l.Threads-len(x.slots))...)
	always := slices.Clone(slots) // what each slot has from ahead of the scan on; 0: not always
	var loaded []int
	ended, puts := false, x.puts
	for _, scan := range so {
		switch {
		case scan:
			if len(loaded) < len(slots) {
				loaded = append(loaded, slots[len(loaded)])
			}
			ended = s.Step(m)
		default:
			p := puts[0]
			puts = puts[1:]
			m.Store(x.l.Slot(p.slot/2, p.slot%2), uint64(p.node))
			if !ended && slots[p.slot] != p.node {
				always[p.slot] = 0
			}
			slots[p.slot] = p.node
		}
	}
	if ended {
		x.right(t, m, s, loaded, always)
	}
	return ended, len(puts)
}

// right asks whether a scan that has ended kept just what was loaded, and so
// each node that one slot had all the time.
func (x mix) right(t *testing.T, m *mem.Mem, s *Scan, loaded, always []int) {
	t.Helper()
	kept, freed := parted(loaded, x.nodes)
	told(t, s, kept, freed)
	for _, node := range x.nodes {
		if slices.Contains(always, node) && !slices.Contains(s.Kept, node) {
			t.Error(node, "was guarded all the time")
		}
		if life.Taken(m, x.l, node) != slices.Contains(s.Kept, node) {
			t.Error(node, "taken:", life.Taken(m, x.l, node))
		}
	}
}

func TestOthersStoreBetweenAScansSteps(t *testing.T) {
	for _, x := range []mix{
		{of(1, 3), []int{1, 2}, []int{1, 2, 3}, []put{{0, 3}}},
		{of(1, 3), []int{1, 2}, []int{1, 2, 3}, []put{{1, 0}, {0, 0}}},
		{of(1, 3), []int{0, 1}, []int{1, 2}, []put{{0, 1}, {1, 2}, {1, 0}}},
		{of(2, 3), []int{1, 0, 0, 2}, []int{1, 2, 3}, []put{{1, 1}, {0, 0}, {2, 2}, {3, 0}}},
		{of(2, 3), []int{3, 1, 0, 1}, []int{2, 1, 3}, []put{{2, 3}, {0, 0}, {3, 2}, {1, 0}}},
		{of(2, 2), nil, []int{1, 2}, []put{{3, 1}, {3, 2}, {0, 1}}},
		{of(2, 4), []int{4, 3, 2, 1}, []int{1, 2, 3, 4}, []put{{0, 0}, {1, 0}, {2, 0}, {3, 0}}},
	} {
		if orders := x.walk(t); orders < 4 {
			t.Error(x, "orders:", orders)
		}
	}
}

// A slot from which a node goes, to another one that was loaded already, lets
// it be told by none; one that has it twice lets it be told.
func TestNodeThatGoesFromSlotToSlot(t *testing.T) {
	l := of(1, 2)
	m := made(t, l, 0, 1)
	s := New(l, 1)
	s.Step(m)
	m.Store(l.Slot(0, 0), 1)
	m.Store(l.Slot(0, 1), 0)
	if n, ok := mem.Run(m, 9, s); n != 2 || !ok {
		t.Error(n, ok)
	}
	told(t, s, nil, []int{1})
	m = made(t, l, 1, 0)
	s = New(l, 1)
	s.Step(m)
	m.Store(l.Slot(0, 1), 1)
	m.Store(l.Slot(0, 0), 0)
	mem.Run(m, 9, s)
	told(t, s, []int{1}, nil)
}

func TestGuarded(t *testing.T) {
	l := of(3, 4)
	for slot := range 6 {
		slots := make([]int, 6)
		slots[slot] = 3
		m := made(t, l, slots...)
		for node := 0; node <= 4; node++ {
			if Guarded(m, l, node) != (node == 3) {
				t.Error(slot, node)
			}
		}
		if m.Actions() != 0 || !m.Same(made(t, l, slots...)) {
			t.Error("an action", m.Last())
		}
	}
}

// What stands beside the slots guards nothing.
func TestGuardedIsAskedOfSlotsAlone(t *testing.T) {
	l := of(2, 4)
	words := make([]uint64, l.Size())
	for addr := range words {
		words[addr] = 4
	}
	for i := range 4 {
		words[l.Slot(0, 0)+i] = 2
	}
	m, e := mem.New(l, words...)
	if e != api.OK || Guarded(m, l, 4) || !Guarded(m, l, 2) {
		t.Error(e)
	}
	s := New(l, 4, 2)
	mem.Run(m, 9, s)
	told(t, s, []int{2}, []int{4})
}

func TestGuardedOfNoNode(t *testing.T) {
	l := of(2, 3)
	for _, m := range []*mem.Mem{nil, made(t, l), made(t, l, 1, 2, 3, 1)} {
		for _, node := range append(strangers(l), 0) {
			if Guarded(m, l, node) {
				t.Error(node)
			}
		}
	}
	m := made(t, l, 4, 0, 1000, 0)
	if !Guarded(m, l, 4) || !Guarded(m, l, 1000) || Guarded(m, l, 0) {
		t.Error("a number that is in a slot")
	}
}

func TestSteps(t *testing.T) {
	for threads := 1; threads <= api.MaxThreads; threads++ {
		l := of(threads, 5)
		for _, c := range []struct{ frees, more int }{{0, 0}, {1, 1}, {5, 5}, {200, 200}, {-1, 0}, {-7, 0}, {math.MinInt, 0}} {
			if n := Steps(l, c.frees); n != 2*threads+c.more {
				t.Error(threads, c.frees, n)
			}
		}
		for frees := range 5 {
			nodes := []int{1, 2, 3, 4, 5}
			m := made(t, l, 5)
			if n, ok := mem.Run(m, 99, New(l, nodes[:frees]...)); n != Steps(l, frees) || !ok {
				t.Error(threads, frees, n, ok)
			}
			m = made(t, l, 5)
			if n, ok := mem.Run(m, 99, New(l, nodes[4-frees:]...)); n != Steps(l, frees) || !ok {
				t.Error(threads, frees, n, ok)
			}
		}
	}
}

func TestScanNeitherKeepsNorChangesItsNodes(t *testing.T) {
	l := of(1, 4)
	m := made(t, l, 2)
	nodes := []int{4, 2, 3}
	s := New(l, nodes...)
	s.Step(m)
	nodes[0], nodes[1] = 1, 1
	mem.Run(m, 9, s)
	told(t, s, []int{2}, []int{4, 3})
	if !slices.Equal(nodes, []int{1, 1, 3}) {
		t.Error(nodes)
	}
	s.Kept[0] = 9
	s.Kept = append(s.Kept, 8)
	told(t, s, []int{9, 8}, []int{4, 3})
}

func TestMachinesEmbedTheLayout(t *testing.T) {
	l := of(2, 3)
	if s, c := New(l, 2), Drop(l, 1); s.Layout != l || c.Layout != l || s.Counter() != l.Counter() || c.Slot(1, 1) != l.Slot(1, 1) {
		t.Error(s.Layout, c.Layout)
	}
}

// A number that is no node's is scanned for as each other one is: its life is
// reckoned on (layers 3 and 4).
func TestScanForNoNode(t *testing.T) {
	l := of(2, 3)
	for _, node := range strangers(l)[2:] {
		m := made(t, l, 1)
		s := New(l, node, 1, node)
		got := seen(t, m, s)
		if len(got) != 6 || got[4].Kind != mem.Add || got[4].Addr != l.Life(node) || got[5].Addr != l.Life(node) {
			t.Error(node, got)
		}
		told(t, s, []int{1}, []int{node, node})
		m = made(t, l, 1, node)
		s = New(l, node, 1)
		if got := seen(t, m, s); len(got) != 4 {
			t.Error(node, got)
		}
		told(t, s, []int{node, 1}, nil)
	}
}

// Each slot that guards nothing tells 0.
func TestScanForZero(t *testing.T) {
	l := of(1, 3)
	m := made(t, l, 3)
	s := New(l, 0, 3, 2)
	if n, ok := mem.Run(m, 9, s); n != 3 || !ok || m.Peek(l.Head(3)) != 0 {
		t.Error(n, ok)
	}
	told(t, s, []int{0, 3}, []int{2})
}

func TestDropOfNoThread(t *testing.T) {
	l := of(2, 3)
	for _, thread := range []int{2, 3, 8, -1, -2, 1000, math.MaxInt, math.MinInt} {
		m := made(t, l, 1, 2, 3, 1)
		got := seen(t, m, Drop(l, thread))
		if len(got) != 2 || got[0].Kind != mem.Store || got[1].Kind != mem.Store || got[0].Ok || got[1].Ok {
			t.Error(thread, got)
		}
		if !m.Same(made(t, l, 1, 2, 3, 1)) {
			t.Error(thread, "another memory")
		}
	}
}

func TestLayoutThatIsNotRight(t *testing.T) {
	there := of(2, 3)
	for _, l := range wrong() {
		for _, nodes := range [][]int{nil, {1}, {3, 1, 2}, {math.MaxInt, 0, math.MinInt}} {
			m := made(t, there, 1, 2, 3)
			s := New(l, nodes...)
			got := seen(t, m, s)
			if len(got) != max(Steps(l, len(s.Freed)), 1) || len(got) > api.Slots*api.MaxThreads+len(nodes) && len(nodes) > 0 {
				t.Error(l, nodes, len(got))
			}
			if len(s.Kept)+len(s.Freed) != len(nodes) {
				t.Error(l, nodes, s.Kept, s.Freed)
			}
			for _, a := range got[:len(got)-len(s.Freed)] {
				if a.Kind != mem.Load {
					t.Error(l, nodes, a)
				}
			}
		}
		m := made(t, there, 1, 2, 3)
		for thread := range 3 {
			if got := seen(t, m, Drop(l, thread-1)); len(got) != 2 {
				t.Error(l, got)
			}
			Guarded(m, l, thread)
		}
		if !m.Same(made(t, there, 1, 2, 3)) {
			t.Error(l, "another memory")
		}
	}
	if Guarded(made(t, there, 1), mem.Layout{}, 1) || Guarded(made(t, there, 1), of(-3, 3), 1) || Steps(mem.Layout{}, 3) != 3 || Steps(of(-4, 3), 3) != 3 {
		t.Error("slots of no threads")
	}
}

// What was never made by a call of the package works too.
func TestMachinesThatWereNotMade(t *testing.T) {
	l := of(2, 3)
	m := made(t, l, 1, 2, 3, 1)
	s := &Scan{Layout: l, Kept: []int{7}, Freed: []int{8}}
	if got := seen(t, m, s); !slices.Equal(got, loads(l, 1, 2, 3, 1)) {
		t.Error(got)
	}
	told(t, s, nil, nil)
	if got := seen(t, m, &Scan{}); !slices.Equal(got, []mem.Action{load(0, 0)}) {
		t.Error(got)
	}
	if got := seen(t, m, &Clear{}); len(got) != 2 || !m.Same(made(t, l, 1, 2, 3, 1)) {
		t.Error(got)
	}
	if seen(t, m, &Clear{Layout: l}); !m.Same(made(t, l, 0, 0, 3, 1)) {
		t.Error("not thread 0")
	}
}

func TestMemoryThatIsNotThere(t *testing.T) {
	l := of(2, 3)
	s := New(l, 3, 1)
	if n, ok := mem.Run(nil, 99, s); n != 6 || !ok {
		t.Error(n, ok)
	}
	told(t, s, nil, []int{3, 1})
	if n, ok := mem.Run(nil, 99, New(l)); n != 4 || !ok {
		t.Error(n, ok)
	}
	if n, ok := mem.Run(nil, 99, Drop(l, 1)); n != 2 || !ok {
		t.Error(n, ok)
	}
	if Guarded(nil, l, 1) || Guarded(nil, l, 0) {
		t.Error("guarded")
	}
}

// Where there is no slot, a Load tells 0.
func TestMemoryThatIsTooSmall(t *testing.T) {
	m := made(t, of(1, 1))
	l := of(8, 50)
	s := New(l, 40, 50)
	if n, ok := mem.Run(m, 99, s, Drop(l, 7)); n != 20 || !ok || !m.Same(made(t, of(1, 1))) || Guarded(m, l, 50) {
		t.Error(n, ok)
	}
	told(t, s, nil, []int{40, 50})
}

func TestStepBehindTheLastDoesNothing(t *testing.T) {
	l := of(2, 4)
	m := made(t, l, 1)
	some, none, all, c, empty := New(l, 1, 2), New(l), New(l, 1), Drop(l, 1), &Scan{}
	if n, ok := mem.Run(m, 99, some, none, all, c, empty); n != 16 || !ok {
		t.Fatal(n, ok)
	}
	mem.Run(m, 99, Drop(l, 0))
	m.Store(l.Slot(1, 0), 2)
	was, words := m.Actions(), m.Copy()
	for range 5 {
		for i, x := range []mem.Machine{some, none, all, c, empty} {
			if !x.Step(m) {
				t.Error(i)
			}
		}
	}
	if m.Actions() != was || !m.Same(words) {
		t.Error(m.Actions() - was)
	}
	told(t, some, []int{1}, []int{2})
	told(t, none, nil, nil)
	told(t, all, []int{1}, nil)
}
