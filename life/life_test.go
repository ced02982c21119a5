package life

import (
	"math"
	"slices"
	"testing"

	"sherpa/api"
	"sherpa/mem"
)

// of is a layout of two threads and some nodes.
func of(nodes int) mem.Layout { return mem.Layout{Threads: 2, Nodes: nodes} }

// wrong is layouts that aren't right.
func wrong() []mem.Layout {
	return []mem.Layout{
		{}, {Threads: 1}, {Nodes: 3}, {Threads: 9, Nodes: 3}, {Threads: 2, Nodes: 201}, {Threads: -1, Nodes: 3},
		{Threads: 2, Nodes: -1}, {Threads: 2, Nodes: math.MaxInt}, {Threads: 2, Nodes: math.MinInt},
		{Threads: math.MaxInt, Nodes: math.MaxInt}, {Threads: math.MinInt, Nodes: math.MinInt},
	}
}

// strangers is numbers that are no node's of a layout.
func strangers(l mem.Layout) []int {
	return []int{0, -1, -2, l.Nodes + 1, l.Nodes + 2, 1000, -1000, math.MaxInt, math.MaxInt - 1, math.MinInt, math.MinInt + 1}
}

// made is memory of which the nodes' lives are these.
func made(t *testing.T, l mem.Layout, lives ...uint64) *mem.Mem {
	t.Helper()
	words := make([]uint64, l.Life(1), l.Size())
	m, e := mem.New(l, append(words, lives...)...)
	if e != api.OK {
		t.Fatal(l, e)
	}
	return m
}

// lives is all nodes' lives.
func lives(m *mem.Mem, l mem.Layout) []uint64 {
	var x []uint64
	for node := 1; node <= l.Nodes; node++ {
		x = append(x, m.Peek(l.Life(node)))
	}
	return x
}

// load, cas and add are actions that are to be seen at a node's life.
func load(l mem.Layout, node int, is uint64) mem.Action {
	return mem.Action{Kind: mem.Load, Addr: l.Life(node), Old: is, New: is, Ok: true}
}

func cas(l mem.Layout, node int, is uint64) mem.Action {
	return mem.Action{Kind: mem.Cas, Addr: l.Life(node), Old: is, New: is + 1, Ok: true}
}

func add(l mem.Layout, node int, is uint64) mem.Action {
	return mem.Action{Kind: mem.Add, Addr: l.Life(node), Old: is, New: is + 1, Ok: true}
}

// idle is the action of a machine that has nothing to do.
func idle() mem.Action { return mem.Action{Kind: mem.Load, Ok: true} }

// seen is the actions of a machine till its end; each of its steps is to be one.
func seen(t *testing.T, m *mem.Mem, x mem.Machine) []mem.Action {
	t.Helper()
	var l []mem.Action
	for range 2 * (api.MaxNodes + 1) {
		was := m.Actions()
		ended := x.Step(m)
		if m.Actions() != was+1 {
			t.Fatal("no single action in a step:", m.Actions()-was)
		}
		if l = append(l, m.Last()); ended {
			return l
		}
	}
	t.Fatal("no end")
	return nil
}

// check runs a machine that takes a node, and asks what it did.
func check(t *testing.T, m *mem.Mem, a *Alloc, got int, want ...mem.Action) {
	t.Helper()
	if l := seen(t, m, a); a.Got != got || !slices.Equal(l, want) {
		t.Error(a.Got, "want", got, l, "want", want)
	}
}

func TestTakeAlone(t *testing.T) {
	l := of(3)
	check(t, made(t, l), New(l, 1), 1, load(l, 1, 0), cas(l, 1, 0))
	check(t, made(t, l), New(l, 2), 2, load(l, 2, 0), cas(l, 2, 0))
	check(t, made(t, l), New(l, 3), 3, load(l, 3, 0), cas(l, 3, 0))
	check(t, made(t, l, 1), New(l, 1), 2, load(l, 1, 1), load(l, 2, 0), cas(l, 2, 0))
	check(t, made(t, l, 0, 0, 1), New(l, 3), 1, load(l, 3, 1), load(l, 1, 0), cas(l, 1, 0))
	check(t, made(t, l, 5, 8, 7), New(l, 3), 2, load(l, 3, 7), load(l, 1, 5), load(l, 2, 8), cas(l, 2, 8))
	check(t, made(t, l, 1, 1, 1), New(l, 2), 0, load(l, 2, 1), load(l, 3, 1), load(l, 1, 1))
	big := uint64(math.MaxUint64)
	check(t, made(t, l, big, big-1, 0), New(l, 1), 2, load(l, 1, big), load(l, 2, big-1), cas(l, 2, big-1))
	check(t, made(t, l, 1<<63, 0, 0), New(l, 1), 1, load(l, 1, 1<<63), cas(l, 1, 1<<63))
}

// told is what taking a node alone is to do: which one is taken, and the actions.
func told(l mem.Layout, x []uint64, from int) (int, []mem.Action) {
	var want []mem.Action
	for i := range l.Nodes {
		node := (from-1+i)%l.Nodes + 1
		want = append(want, load(l, node, x[node-1]))
		if x[node-1]&1 == 0 {
			return node, append(want, cas(l, node, x[node-1]))
		}
	}
	return 0, want
}

func TestTakeAloneWhateverIsTaken(t *testing.T) {
	for nodes := 1; nodes <= 6; nodes++ {
		l := of(nodes)
		for taken := range 1 << nodes {
			var x []uint64
			for node := range nodes {
				x = append(x, uint64(2*node+taken>>node&1))
			}
			for from := 1; from <= nodes; from++ {
				m := made(t, l, x...)
				got, want := told(l, x, from)
				check(t, m, New(l, from), got, want...)
				if got > 0 {
					want := slices.Clone(x)
					want[got-1]++
					if !slices.Equal(lives(m, l), want) {
						t.Error(x, from, lives(m, l))
					}
				}
			}
		}
	}
}

func TestTakeFromNoNodeIsFromTheFirst(t *testing.T) {
	l := of(3)
	for _, from := range strangers(l) {
		check(t, made(t, l), New(l, from), 1, load(l, 1, 0), cas(l, 1, 0))
		check(t, made(t, l, 1, 1), New(l, from), 3, load(l, 1, 1), load(l, 2, 1), load(l, 3, 0), cas(l, 3, 0))
	}
}

func TestTakeOfOneNode(t *testing.T) {
	l := mem.Layout{Threads: 1, Nodes: 1}
	check(t, made(t, l), New(l, 1), 1, load(l, 1, 0), cas(l, 1, 0))
	check(t, made(t, l, 1), New(l, 1), 0, load(l, 1, 1))
	check(t, made(t, l, 2), New(l, 2), 1, load(l, 1, 2), cas(l, 1, 2))
}

func TestTakeOfTheMostNodes(t *testing.T) {
	l := mem.Layout{Threads: api.MaxThreads, Nodes: api.MaxNodes}
	m := made(t, l)
	for i := range l.Nodes {
		a := New(l, 101)
		if n, ok := mem.Run(m, 1000, a); a.Got != (100+i)%200+1 || n != i+2 || !ok {
			t.Fatal(i, a.Got, n, ok)
		}
	}
	for _, from := range []int{1, 101, 200} {
		a := New(l, from)
		if n, ok := mem.Run(m, 1000, a); a.Got != 0 || n != 200 || !ok {
			t.Error(from, a.Got, n, ok)
		}
	}
	mem.Run(m, 1, Back(l, 100))
	a := New(l, 101)
	if n, ok := mem.Run(m, 1000, a); a.Got != 100 || n != 201 || !ok || m.Peek(l.Life(100)) != 3 {
		t.Error(a.Got, n, ok)
	}
}

func TestGotIsNoneTillTheEnd(t *testing.T) {
	l := of(2)
	m := made(t, l, 1)
	a := New(l, 1)
	for i, ended := range []bool{false, false, true} {
		if a.Got != 0 || a.Step(m) != ended {
			t.Error(i, a.Got)
		}
	}
	if a.Got != 2 {
		t.Error(a.Got)
	}
}

// quicker is a machine that has seen its node free, and another one that took it.
func quicker(t *testing.T, l mem.Layout, from int, lives ...uint64) (*mem.Mem, *Alloc) {
	t.Helper()
	m := made(t, l, lives...)
	a, b := New(l, from), New(l, from)
	if a.Step(m) || b.Step(m) || !b.Step(m) || b.Got != from {
		t.Fatal(b.Got)
	}
	return m, a
}

// failed is a Cas that didn't find what it asked for.
func failed(l mem.Layout, node int, is, x uint64) mem.Action {
	return mem.Action{Kind: mem.Cas, Addr: l.Life(node), Old: is, New: x}
}

func TestCasThatFailsIsGoneOver(t *testing.T) {
	l := of(3)
	m, a := quicker(t, l, 1)
	check(t, m, a, 2, failed(l, 1, 1, 1), load(l, 2, 0), cas(l, 2, 0))
	m, a = quicker(t, l, 3, 1)
	check(t, m, a, 2, failed(l, 3, 1, 1), load(l, 1, 1), load(l, 2, 0), cas(l, 2, 0))
	m, a = quicker(t, l, 2, 1, 0, 1)
	check(t, m, a, 0, failed(l, 2, 1, 1), load(l, 3, 1), load(l, 1, 1))
	one := of(1)
	m, a = quicker(t, one, 1)
	check(t, m, a, 0, failed(one, 1, 1, 1))
}

// A node that is free again isn't as it was when it was loaded.
func TestCasFailsOfANodeThatIsFreeAgain(t *testing.T) {
	l := of(2)
	m, a := quicker(t, l, 1)
	mem.Run(m, 1, Back(l, 1))
	check(t, m, a, 2, failed(l, 1, 2, 1), load(l, 2, 0), cas(l, 2, 0))
	if !slices.Equal(lives(m, l), []uint64{2, 1}) {
		t.Error(lives(m, l))
	}
}

func TestNodeThatIsFreeTooLateIsNotTaken(t *testing.T) {
	l := of(3)
	m := made(t, l, 1, 1, 1)
	a := New(l, 2)
	a.Step(m)
	mem.Run(m, 1, Back(l, 2))
	check(t, m, a, 0, load(l, 3, 1), load(l, 1, 1))
}

func TestNodeThatIsFreeInTimeIsTaken(t *testing.T) {
	l := of(3)
	m := made(t, l, 1, 1, 1)
	a := New(l, 2)
	a.Step(m)
	mem.Run(m, 1, Back(l, 1))
	check(t, m, a, 1, load(l, 3, 1), load(l, 1, 2), cas(l, 1, 2))
}

func TestBack(t *testing.T) {
	l := of(3)
	for _, c := range []struct {
		nodes []int
		want  []mem.Action
		lives []uint64
	}{
		{nil, []mem.Action{idle()}, []uint64{1, 3, 5}},
		{[]int{1}, []mem.Action{add(l, 1, 1)}, []uint64{2, 3, 5}},
		{[]int{3, 1}, []mem.Action{add(l, 3, 5), add(l, 1, 1)}, []uint64{2, 3, 6}},
		{[]int{2, 3, 1}, []mem.Action{add(l, 2, 3), add(l, 3, 5), add(l, 1, 1)}, []uint64{2, 4, 6}},
		{[]int{2, 2}, []mem.Action{add(l, 2, 3), add(l, 2, 4)}, []uint64{1, 5, 5}},
		{[]int{2, 1, 2}, []mem.Action{add(l, 2, 3), add(l, 1, 1), add(l, 2, 4)}, []uint64{2, 5, 5}},
	} {
		m := made(t, l, 1, 3, 5)
		if got := seen(t, m, Back(l, c.nodes...)); !slices.Equal(got, c.want) || !slices.Equal(lives(m, l), c.lives) {
			t.Error(c.nodes, got, lives(m, l))
		}
	}
}

func TestBackGoesRoundBehindTheGreatestLife(t *testing.T) {
	l := of(1)
	m := made(t, l, math.MaxUint64)
	if got := seen(t, m, Back(l, 1)); !slices.Equal(got, []mem.Action{add(l, 1, math.MaxUint64)}) || m.Peek(l.Life(1)) != 0 {
		t.Error(got)
	}
	check(t, m, New(l, 1), 1, load(l, 1, 0), cas(l, 1, 0))
}

func TestBackOfTheMostNodes(t *testing.T) {
	l := mem.Layout{Threads: 1, Nodes: api.MaxNodes}
	m := made(t, l)
	var all []int
	for node := api.MaxNodes; node > 0; node-- {
		mem.Run(m, 2, New(l, node))
		all = append(all, node)
	}
	if free := Free(m, l); len(free) != 0 {
		t.Error(free)
	}
	if n, ok := mem.Run(m, 1000, Back(l, all...)); n != 200 || !ok || len(Free(m, l)) != 200 {
		t.Error(n, ok, Free(m, l))
	}
}

func TestBackNeitherKeepsNorChangesItsNodes(t *testing.T) {
	l := of(3)
	m := made(t, l, 1, 1, 1)
	nodes := []int{2, 3}
	g := Back(l, nodes...)
	g.Step(m)
	if !slices.Equal(nodes, []int{2, 3}) {
		t.Error(nodes)
	}
	nodes[1] = 1
	if g.Step(m); !slices.Equal(lives(m, l), []uint64{1, 2, 2}) {
		t.Error(lives(m, l))
	}
}

// A life of a number that is no node's is reckoned on (layer 3).
func TestBackOfNoNode(t *testing.T) {
	l := of(3)
	for _, c := range []struct{ node, addr int }{{0, l.Head(3)}, {-1, l.Head(2)}, {4, l.Slot(0, 0)}, {5, l.Slot(0, 1)}} {
		m := made(t, l)
		got := seen(t, m, Back(l, c.node))
		if !slices.Equal(got, []mem.Action{{Kind: mem.Add, Addr: c.addr, New: 1, Ok: true}}) || m.Peek(c.addr) != 1 {
			t.Error(c, got)
		}
	}
	for _, node := range strangers(l)[5:] {
		m := made(t, l, 1, 0, 1)
		got := seen(t, m, Back(l, node))
		if !slices.Equal(got, []mem.Action{{Kind: mem.Add, Addr: l.Life(node)}}) || !m.Same(made(t, l, 1, 0, 1)) {
			t.Error(node, got)
		}
	}
}

func TestTakenAndFree(t *testing.T) {
	for _, c := range []struct {
		lives []uint64
		free  []int
	}{
		{[]uint64{0, 0, 0, 0}, []int{1, 2, 3, 4}},
		{[]uint64{1, 0, 0, 0}, []int{2, 3, 4}},
		{[]uint64{0, 1, 2, 3}, []int{1, 3}},
		{[]uint64{0, 0, 0, 1}, []int{1, 2, 3}},
		{[]uint64{7, 7, 7, 8}, []int{4}},
		{[]uint64{math.MaxUint64, math.MaxUint64 - 1, 1 << 63, 1<<63 + 1}, []int{2, 3}},
		{[]uint64{1, 1, 1, 1}, nil},
	} {
		l := of(4)
		m := made(t, l, c.lives...)
		if free := Free(m, l); !slices.Equal(free, c.free) {
			t.Error(c.lives, free)
		}
		for node := 1; node <= 4; node++ {
			if Taken(m, l, node) == slices.Contains(c.free, node) {
				t.Error(c.lives, node)
			}
		}
		if m.Actions() != 0 || !m.Same(made(t, l, c.lives...)) {
			t.Error("an action", m.Last())
		}
	}
}

func TestTakenOfNoNode(t *testing.T) {
	l := of(3)
	odd := make([]uint64, l.Size())
	for addr := range odd {
		odd[addr] = 1
	}
	m, e := mem.New(l, odd...)
	if e != api.OK || !Taken(m, l, 1) || !Taken(m, l, 3) {
		t.Fatal(e)
	}
	for _, node := range strangers(l) {
		if Taken(m, l, node) {
			t.Error(node)
		}
	}
}

func TestFreeIsAListOfItsOwn(t *testing.T) {
	l := of(3)
	m := made(t, l, 0, 1)
	Free(m, l)[0] = 9
	if free := Free(m, l); !slices.Equal(free, []int{1, 3}) {
		t.Error(free)
	}
}

func TestMachinesEmbedTheLayout(t *testing.T) {
	l := of(3)
	if a, g := New(l, 2), Back(l, 2); a.Layout != l || g.Layout != l || a.Counter() != l.Counter() || g.Life(2) != l.Life(2) {
		t.Error(a.Layout, g.Layout)
	}
}

func TestLayoutThatIsNotRightHasNoNodes(t *testing.T) {
	for _, l := range wrong() {
		there := of(3)
		m := made(t, there)
		for _, from := range []int{1, 2, 0, -1, math.MaxInt, math.MinInt} {
			check(t, m, New(l, from), 0, idle())
		}
		check(t, m, &Alloc{Layout: l}, 0, idle())
		if got := seen(t, m, Back(l)); !slices.Equal(got, []mem.Action{idle()}) {
			t.Error(l, got)
		}
		if !m.Same(made(t, there)) || len(Free(m, l)) != 0 {
			t.Error(l, Free(m, l))
		}
		m = made(t, there, 1, 1, 1)
		for _, node := range append(strangers(l), 1, 2, 3) {
			if Taken(m, l, node) {
				t.Error(l, node)
			}
		}
		if got := seen(t, m, Back(l, 1, 0, math.MaxInt)); len(got) != 3 {
			t.Error(l, got)
		}
	}
}

func TestMemoryThatIsNotThere(t *testing.T) {
	l := of(3)
	a := New(l, 2)
	if n, ok := mem.Run(nil, 100, a); n != 6 || !ok || a.Got != 0 {
		t.Error(n, ok, a.Got)
	}
	if n, ok := mem.Run(nil, 100, Back(l, 2, 1)); n != 2 || !ok {
		t.Error(n, ok)
	}
	if n, ok := mem.Run(nil, 100, Back(l)); n != 1 || !ok {
		t.Error(n, ok)
	}
	// Each word of it is 0.
	if Taken(nil, l, 1) || !slices.Equal(Free(nil, l), []int{1, 2, 3}) {
		t.Error(Free(nil, l))
	}
}

// Where there is no life, no Cas is done.
func TestMemoryThatIsTooSmall(t *testing.T) {
	small := mem.Layout{Threads: 1, Nodes: 1}
	m := made(t, small)
	a := New(of(50), 1)
	if n, ok := mem.Run(m, 1000, a); n != 100 || !ok || a.Got != 0 || !m.Same(made(t, small)) {
		t.Error(n, ok, a.Got)
	}
	if Taken(m, of(50), 50) {
		t.Error("taken")
	}
}

func TestStepBehindTheLastDoesNothing(t *testing.T) {
	l := of(2)
	m := made(t, l)
	a, g, none, full := New(l, 1), Back(l, 2), Back(l), New(mem.Layout{}, 1)
	if n, ok := mem.Run(m, 9, a, g, none, full); n != 5 || !ok {
		t.Fatal(n, ok)
	}
	late := New(l, 1)
	if n, ok := mem.Run(m, 9, late); n != 2 || !ok || late.Got != 0 {
		t.Fatal(n, ok, late.Got)
	}
	mem.Run(m, 9, Back(l, 1))
	was := m.Actions()
	for range 5 {
		for i, x := range []mem.Machine{a, g, none, full, late} {
			if !x.Step(m) {
				t.Error(i)
			}
		}
	}
	if m.Actions() != was || !slices.Equal(lives(m, l), []uint64{2, 1}) || a.Got != 1 || late.Got != 0 || full.Got != 0 {
		t.Error(m.Actions()-was, lives(m, l), a.Got, late.Got)
	}
}

// mix is machines that take a node, each of which may give it back: it has one
// step more for that.
type mix struct {
	m      *mem.Mem
	l      mem.Layout
	takers []Alloc
	done   []bool // which took a node, or none, and keep it
	gives  []bool // which give back what they took
}

// copied is the machines and the memory as they are.
func (x mix) copied() mix {
	x.m = x.m.Copy()
	x.takers = slices.Clone(x.takers)
	x.done = slices.Clone(x.done)
	x.gives = slices.Clone(x.gives)
	return x
}

// step lets a machine do a step.
func (x *mix) step(i int) {
	a := &x.takers[i]
	if !a.ended {
		ended := a.Step(x.m)
		x.done[i] = ended && (a.Got == 0 || !x.gives[i])
		return
	}
	Back(x.l, a.Got).Step(x.m)
	a.Got = 0
	x.done[i] = true
}

// right asks whether each node has one that took it, or none, and whether just
// those that somebody has are taken.
func (x mix) right(t *testing.T) {
	t.Helper()
	has := map[int]int{}
	for _, a := range x.takers {
		if a.Got != 0 {
			has[a.Got]++
		}
	}
	for node := 1; node <= x.l.Nodes; node++ {
		if n := has[node]; n > 1 || Taken(x.m, x.l, node) != (n == 1) {
			t.Fatal("node", node, "was taken by", n)
		}
	}
}

// walk tries all orders of the steps that are left; how many orders there are.
func (x mix) walk(t *testing.T, at func(mix)) int {
	t.Helper()
	x.right(t)
	n := 0
	for i := range x.takers {
		if !x.done[i] {
			next := x.copied()
			next.step(i)
			n += next.walk(t, at)
		}
	}
	if n > 0 {
		return n
	}
	at(x)
	return 1
}

// mixed is machines that take from these nodes on; which of them give back.
func mixed(t *testing.T, l mem.Layout, from []int, gives ...bool) mix {
	x := mix{m: made(t, l), l: l, gives: gives, done: make([]bool, len(from))}
	for _, node := range from {
		x.takers = append(x.takers, *New(l, node))
	}
	return x
}

func TestNoTwoTakeOneNode(t *testing.T) {
	for _, c := range []struct {
		nodes int
		from  []int
		gives []bool
	}{
		{1, []int{1, 1}, []bool{false, false}},
		{1, []int{1, 1}, []bool{true, true}},
		{1, []int{1, 1, 1}, []bool{true, false, true}},
		{2, []int{1, 1}, []bool{false, false}},
		{2, []int{1, 2, 1}, []bool{false, false, false}},
		{2, []int{2, 1, 1}, []bool{true, false, true}},
		{3, []int{1, 1, 1}, []bool{false, false, false}},
		{3, []int{1, 2, 3}, []bool{true, true, true}},
		{3, []int{3, 3, 1}, []bool{false, true, false}},
		{2, []int{1, 1, 2, 2}, []bool{false, false, false, false}},
	} {
		orders := mixed(t, of(c.nodes), c.from, c.gives...).walk(t, func(x mix) {
			if !slices.Contains(c.gives, true) && len(Free(x.m, x.l)) != max(0, c.nodes-len(c.from)) {
				t.Error(c, "free at the end:", Free(x.m, x.l))
			}
		})
		if orders < 6 {
			t.Error(c, "orders:", orders)
		}
	}
}
