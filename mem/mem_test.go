package mem

import (
	"math"
	"slices"
	"testing"

	"sherpa/api"
)

// small is a layout of two threads and three nodes: its addresses are 0 to 21.
func small() Layout { return Layout{Threads: 2, Nodes: 3} }

// layouts is all layouts that are right.
func layouts() []Layout {
	var l []Layout
	for threads := 1; threads <= api.MaxThreads; threads++ {
		for nodes := 1; nodes <= api.MaxNodes; nodes++ {
			l = append(l, Layout{threads, nodes})
		}
	}
	return l
}

// wrong is layouts that aren't right.
func wrong() []Layout {
	return []Layout{
		{}, {0, 1}, {1, 0}, {0, 200}, {8, 0}, {9, 1}, {1, 201}, {9, 201}, {-1, 1}, {1, -1}, {-1, -1}, {200, 8},
		{math.MaxInt, 1}, {1, math.MaxInt}, {math.MinInt, 1}, {1, math.MinInt}, {math.MaxInt, math.MaxInt},
	}
}

// extremes is numbers that lead to no place.
func extremes() []int {
	return []int{math.MinInt, math.MinInt + 1, -1000, -2, -1, math.MaxInt32 + 1, math.MaxInt - 1, math.MaxInt}
}

// made is memory that begins with words.
func made(t *testing.T, l Layout, words ...uint64) *Mem {
	t.Helper()
	m, e := New(l, words...)
	if m == nil || e != api.OK {
		t.Fatal(l, e)
	}
	return m
}

// all is all words of a memory.
func all(m *Mem, l Layout) []uint64 {
	var x []uint64
	for addr := range l.Size() {
		x = append(x, m.Peek(addr))
	}
	return x
}

// count is a small layout's words: each one is 100 and its address.
func count() []uint64 {
	var x []uint64
	for addr := range small().Size() {
		x = append(x, uint64(100+addr))
	}
	return x
}

func TestKindsAreThoseOfTheDocument(t *testing.T) {
	if l := []int{Load, Store, Cas, Add}; !slices.Equal(l, []int{1, 2, 3, 4}) {
		t.Error(l)
	}
}

func TestRight(t *testing.T) {
	for _, l := range layouts() {
		if !l.Right() {
			t.Error(l)
		}
	}
	for _, l := range wrong() {
		if l.Right() {
			t.Error(l)
		}
	}
}

// addresses is all of a layout's addresses, from nobody's on, in the order of the document.
func addresses(l Layout) []int {
	a := []int{0}
	for node := 1; node <= l.Nodes; node++ {
		a = append(a, node)
	}
	for n := range api.Heads {
		a = append(a, l.Head(n))
	}
	for node := 1; node <= l.Nodes; node++ {
		a = append(a, l.Life(node))
	}
	for thread := range l.Threads {
		a = append(a, l.Slot(thread, 0), l.Slot(thread, 1))
	}
	for thread := range l.Threads {
		a = append(a, l.Ticket(thread), l.Task(thread), l.Desc(thread))
	}
	return append(a, l.Counter())
}

func TestAddressesStandOneBehindTheOther(t *testing.T) {
	for _, l := range layouts() {
		a := addresses(l)
		for i, addr := range a {
			if addr != i {
				t.Fatal(l, i, addr)
			}
		}
		if l.Size() != len(a) || l.Size() != 2*l.Nodes+5*l.Threads+6 {
			t.Fatal(l, l.Size(), len(a))
		}
	}
}

func TestAddressesOfTheLeastLayout(t *testing.T) {
	l := Layout{1, 1}
	got := []int{l.Head(0), l.Head(3), l.Life(1), l.Slot(0, 0), l.Slot(0, 1), l.Ticket(0), l.Task(0), l.Desc(0), l.Counter(), l.Size()}
	if !slices.Equal(got, []int{2, 5, 6, 7, 8, 9, 10, 11, 12, 13}) {
		t.Error(got)
	}
}

func TestAddressesOfTheGreatestLayout(t *testing.T) {
	l := Layout{8, 200}
	got := []int{l.Head(0), l.Head(3), l.Life(1), l.Life(200), l.Slot(0, 0), l.Slot(7, 1), l.Ticket(0), l.Task(3), l.Desc(7), l.Counter(), l.Size()}
	if !slices.Equal(got, []int{201, 204, 205, 404, 405, 420, 421, 431, 444, 445, 446}) {
		t.Error(got)
	}
}

func TestLifeOfNoNodeIsReckonedOn(t *testing.T) {
	l := small()
	for _, node := range []int{-1000, -8, -7, -1, 0, 4, 5, 14, 15, 1000} {
		if got := l.Life(node); got != l.Life(1)+node-1 {
			t.Error(node, got)
		}
	}
}

func TestNode(t *testing.T) {
	for _, l := range []Layout{{1, 1}, {2, 3}, {8, 200}} {
		for addr := -2; addr <= l.Size(); addr++ {
			if got, want := l.Node(addr), addr >= 1 && addr <= l.Nodes; got != want {
				t.Error(l, addr, got)
			}
		}
		for _, addr := range extremes() {
			if l.Node(addr) {
				t.Error(l, addr)
			}
		}
	}
}

func TestNoNumberOutsidePanics(t *testing.T) {
	for _, l := range append(wrong(), small()) {
		for _, n := range append(extremes(), 0, 3, 8, 200) {
			l.Head(n)
			l.Life(n)
			l.Slot(n, n)
			l.Slot(0, n)
			l.Ticket(n)
			l.Task(n)
			l.Desc(n)
			l.Node(n)
		}
		l.Counter()
		l.Size()
	}
}

func TestNewIsAllNoughts(t *testing.T) {
	for _, l := range []Layout{{1, 1}, small(), {8, 1}, {1, 200}, {8, 200}} {
		m := made(t, l)
		if !slices.Equal(all(m, l), make([]uint64, l.Size())) || m.Actions() != 0 || m.Last() != (Action{}) {
			t.Error(l, all(m, l), m.Actions(), m.Last())
		}
	}
}

func TestNewBeginsWithWords(t *testing.T) {
	for n := range small().Size() + 1 {
		want := make([]uint64, small().Size())
		copy(want, count()[:n])
		if m := made(t, small(), count()[:n]...); !slices.Equal(all(m, small()), want) {
			t.Error(n, all(m, small()))
		}
	}
	if m := made(t, Layout{1, 1}, math.MaxUint64); m.Peek(0) != math.MaxUint64 {
		t.Error(m.Peek(0))
	}
}

func TestNewKeepsAndChangesNoArgument(t *testing.T) {
	words := count()
	m := made(t, small(), words...)
	m.Store(3, 1)
	if !slices.Equal(words, count()) {
		t.Error(words)
	}
	words[4] = 2
	if m.Peek(4) != 104 {
		t.Error(m.Peek(4))
	}
}

func TestNewRefuses(t *testing.T) {
	for _, l := range wrong() {
		if m, e := New(l); m != nil || e != api.ErrArg {
			t.Error(l, m, e)
		}
	}
	for _, c := range []struct {
		l     Layout
		words int
		want  api.Errno
	}{
		{Layout{1, 1}, 14, api.ErrLong},
		{Layout{1, 1}, 1000, api.ErrLong},
		{small(), 23, api.ErrLong},
		{Layout{8, 200}, 447, api.ErrLong},
		{Layout{9, 1}, 1000, api.ErrArg},
		{Layout{0, 0}, 1000, api.ErrArg},
	} {
		if m, e := New(c.l, make([]uint64, c.words)...); m != nil || e != c.want {
			t.Error(c, m, e)
		}
	}
}

// done is an action, and what it told (a yes is 1).
type done struct {
	name string
	do   func(m *Mem, addr int) uint64
	told uint64
	last Action
}

func truth(yes bool) uint64 {
	if yes {
		return 1
	}
	return 0
}

// actions is actions of each kind, at a word that is 5.
func actions() []done {
	load := func(m *Mem, addr int) uint64 { return m.Load(addr) }
	store := func(x uint64) func(m *Mem, addr int) uint64 {
		return func(m *Mem, addr int) uint64 { m.Store(addr, x); return 0 }
	}
	cas := func(old, x uint64) func(m *Mem, addr int) uint64 {
		return func(m *Mem, addr int) uint64 { return truth(m.Cas(addr, old, x)) }
	}
	add := func(n uint64) func(m *Mem, addr int) uint64 {
		return func(m *Mem, addr int) uint64 { return m.Add(addr, n) }
	}
	return []done{
		{"load", load, 5, Action{Kind: Load, Old: 5, New: 5, Ok: true}},
		{"store", store(9), 0, Action{Kind: Store, Old: 5, New: 9, Ok: true}},
		{"store of the same", store(5), 0, Action{Kind: Store, Old: 5, New: 5, Ok: true}},
		{"store of 0", store(0), 0, Action{Kind: Store, Old: 5, New: 0, Ok: true}},
		{"cas", cas(5, 8), 1, Action{Kind: Cas, Old: 5, New: 8, Ok: true}},
		{"cas to the old one", cas(5, 5), 1, Action{Kind: Cas, Old: 5, New: 5, Ok: true}},
		{"cas to the greatest", cas(5, math.MaxUint64), 1, Action{Kind: Cas, Old: 5, New: math.MaxUint64, Ok: true}},
		{"cas of another one", cas(4, 8), 0, Action{Kind: Cas, Old: 5, New: 8}},
		{"cas of 0", cas(0, 8), 0, Action{Kind: Cas, Old: 5, New: 8}},
		{"cas of another one, to what is there", cas(6, 5), 0, Action{Kind: Cas, Old: 5, New: 5}},
		{"cas of another high bit", cas(5+1<<63, 8), 0, Action{Kind: Cas, Old: 5, New: 8}},
		{"add", add(3), 5, Action{Kind: Add, Old: 5, New: 8, Ok: true}},
		{"add of 0", add(0), 5, Action{Kind: Add, Old: 5, New: 5, Ok: true}},
		{"add that goes round", add(math.MaxUint64 - 3), 5, Action{Kind: Add, Old: 5, New: 1, Ok: true}},
		{"add that goes round to 0", add(math.MaxUint64 - 4), 5, Action{Kind: Add, Old: 5, New: 0, Ok: true}},
	}
}

func TestActions(t *testing.T) {
	for _, c := range actions() {
		for addr := range small().Size() {
			words := count()
			words[addr] = 5
			m := made(t, small(), words...)
			told := c.do(m, addr)
			if c.last.Ok {
				words[addr] = c.last.New
			}
			c.last.Addr = addr
			if told != c.told || m.Last() != c.last || m.Actions() != 1 || !slices.Equal(all(m, small()), words) {
				t.Error(c.name, addr, told, m.Last(), m.Actions(), all(m, small()))
			}
		}
	}
}

func TestActionsAtTheGreatestLayoutsEnds(t *testing.T) {
	l := Layout{8, 200}
	for _, addr := range []int{0, l.Size() - 1} {
		m := made(t, l)
		m.Store(addr, 7)
		if m.Load(addr) != 7 || !m.Cas(addr, 7, 8) || m.Add(addr, 1) != 8 || m.Peek(addr) != 9 || m.Actions() != 4 {
			t.Error(addr, m.Peek(addr), m.Actions())
		}
	}
}

func TestActionsAtNoAddress(t *testing.T) {
	for _, c := range actions() {
		for _, addr := range append(extremes(), small().Size(), small().Size()+1) {
			m := made(t, small(), count()...)
			m.Store(2, 5)
			words := all(m, small())
			told := c.do(m, addr)
			if told != 0 || m.Last() != (Action{Kind: c.last.Kind, Addr: addr}) || m.Actions() != 2 || !slices.Equal(all(m, small()), words) {
				t.Error(c.name, addr, told, m.Last(), m.Actions())
			}
		}
	}
	m := made(t, Layout{1, 1})
	if m.Cas(13, 0, 0) || m.Cas(-1, 0, 1) || m.Actions() != 2 {
		t.Error(m.Last(), m.Actions())
	}
}

func TestActionsOneBehindTheOther(t *testing.T) {
	m := made(t, small())
	m.Store(3, 9)
	if m.Load(3) != 9 || m.Cas(3, 8, 1) || !m.Cas(3, 9, 10) || m.Cas(3, 9, 10) || m.Add(3, 2) != 10 || m.Load(3) != 12 {
		t.Error(m.Peek(3))
	}
	if m.Actions() != 7 || m.Last() != (Action{Load, 3, 12, 12, true}) {
		t.Error(m.Actions(), m.Last())
	}
}

func TestPeekIsNoAction(t *testing.T) {
	m := made(t, small(), count()...)
	m.Add(4, 1)
	for addr := range small().Size() {
		want := uint64(100 + addr)
		if addr == 4 {
			want++
		}
		if m.Peek(addr) != want {
			t.Error(addr, m.Peek(addr))
		}
	}
	for _, addr := range append(extremes(), small().Size()) {
		if m.Peek(addr) != 0 {
			t.Error(addr, m.Peek(addr))
		}
	}
	if m.Actions() != 1 || m.Last() != (Action{Add, 4, 104, 105, true}) {
		t.Error(m.Actions(), m.Last())
	}
}

func TestMemoryEmbedsItsLayout(t *testing.T) {
	if m := made(t, small()); m.Layout != small() || m.Counter() != 21 || !m.Node(3) {
		t.Error(m.Layout)
	}
}

func TestCopyIsForItself(t *testing.T) {
	m := made(t, small(), count()...)
	m.Store(1, 7)
	c := m.Copy()
	if !c.Same(m) || !m.Same(c) || c == m || c.Layout != small() || !slices.Equal(all(c, small()), all(m, small())) {
		t.Fatal(all(c, small()))
	}
	if c.Actions() != 0 || c.Last() != (Action{}) || m.Actions() != 1 {
		t.Error(c.Actions(), c.Last(), m.Actions())
	}
	c.Store(2, 8)
	if m.Peek(2) != 102 || m.Actions() != 1 || m.Same(c) || c.Same(m) {
		t.Error(m.Peek(2), m.Actions())
	}
	m.Store(3, 9)
	if c.Peek(3) != 103 || c.Actions() != 1 {
		t.Error(c.Peek(3), c.Actions())
	}
}

func TestSame(t *testing.T) {
	m := made(t, small(), count()...)
	if x := made(t, small(), count()...); !m.Same(x) || !x.Same(m) || !m.Same(m) {
		t.Error("the same words")
	}
	busy := made(t, small())
	for addr, x := range count() {
		busy.Store(addr, x)
	}
	if !m.Same(busy) || !busy.Same(m) {
		t.Error("whatever was done")
	}
	for addr := range small().Size() {
		x := m.Copy()
		if x.Add(addr, 1<<63); m.Same(x) || x.Same(m) {
			t.Error("another word", addr)
		}
	}
	// Five nodes' words are as many as two threads': the layouts alone differ.
	if x, y := made(t, Layout{1, 6}), made(t, Layout{3, 1}); x.Size() != y.Size() || x.Same(y) || y.Same(x) {
		t.Error("another layout of as many words", x.Size(), y.Size())
	}
	if x := made(t, Layout{2, 4}); made(t, small()).Same(x) || x.Same(made(t, small())) {
		t.Error("a greater layout")
	}
}

func TestMemoryThatIsNotThere(t *testing.T) {
	var m *Mem
	for _, addr := range append(extremes(), 0, 1, 5) {
		m.Store(addr, 1)
		if m.Load(addr) != 0 || m.Cas(addr, 0, 1) || m.Cas(addr, 0, 0) || m.Add(addr, 1) != 0 || m.Peek(addr) != 0 {
			t.Error(addr)
		}
	}
	if m.Actions() != 0 || m.Last() != (Action{}) || m.Copy() != nil {
		t.Error(m.Actions(), m.Last(), m.Copy())
	}
	there := made(t, Layout{1, 1})
	if !m.Same(nil) || m.Same(there) || there.Same(nil) || there.Same(m) {
		t.Error("nil is the same as nil alone")
	}
}

func TestMemoryOfNoLayoutPanicsNowhere(t *testing.T) {
	m := &Mem{}
	m.Store(0, 1)
	if m.Load(0) != 0 || m.Cas(0, 0, 1) || m.Add(0, 1) != 0 || m.Peek(0) != 0 || m.Actions() != 4 || !m.Same(m.Copy()) {
		t.Error(m.Last(), m.Actions())
	}
}

// counted adds its number to the word at address 1 with each of its steps.
type counted struct {
	left int
	by   uint64
}

func (c *counted) Step(m *Mem) bool {
	m.Add(1, c.by)
	c.left--
	return c.left == 0
}

// logged notes its name with each of its steps.
type logged struct {
	name string
	left int
	log  *[]string
}

func (l *logged) Step(*Mem) bool {
	*l.log = append(*l.log, l.name)
	l.left--
	return l.left == 0
}

func TestRun(t *testing.T) {
	for _, c := range []struct {
		most  int
		lasts []int
		steps int
		all   bool
	}{
		{10, []int{2, 2}, 4, true},
		{4, []int{2, 2}, 4, true},
		{3, []int{2, 2}, 3, false},
		{2, []int{2, 2}, 2, false},
		{1, []int{2, 2}, 1, false},
		{0, []int{2, 2}, 0, false},
		{-1, []int{2, 2}, 0, false},
		{math.MinInt, []int{1}, 0, false},
		{math.MaxInt, []int{1}, 1, true},
		{1, []int{1}, 1, true},
		{6, []int{1, 2, 3}, 6, true},
		{5, []int{1, 2, 3}, 5, false},
		{10, nil, 0, true},
		{0, nil, 0, true},
		{-1, nil, 0, true},
	} {
		m := made(t, small())
		var l []Machine
		for _, left := range c.lasts {
			l = append(l, &counted{left, 5})
		}
		steps, ok := Run(m, c.most, l...)
		if steps != c.steps || ok != c.all || m.Actions() != c.steps || m.Peek(1) != uint64(5*c.steps) {
			t.Error(c, steps, ok, m.Actions(), m.Peek(1))
		}
	}
}

func TestRunIsOneBehindTheOther(t *testing.T) {
	var log []string
	steps, ok := Run(made(t, small()), 5, &logged{"a", 2, &log}, &logged{"b", 1, &log}, &logged{"c", 3, &log})
	if steps != 5 || ok || !slices.Equal(log, []string{"a", "a", "b", "c", "c"}) {
		t.Error(steps, ok, log)
	}
}

func TestRunWithoutMemory(t *testing.T) {
	if steps, ok := Run(nil, 10, &counted{2, 5}, &counted{1, 5}); steps != 3 || !ok {
		t.Error(steps, ok)
	}
}

// falls panics with its second step.
type falls struct{ n int }

func (f *falls) Step(m *Mem) bool {
	if f.n++; f.n == 2 {
		panic("falls")
	}
	m.Load(0)
	return false
}

func TestRunPanicsNever(t *testing.T) {
	if steps, ok := Run(made(t, small()), 10, &counted{2, 5}, &falls{}, &counted{2, 5}); steps != 3 || ok {
		t.Error(steps, ok)
	}
	if steps, ok := Run(made(t, small()), 10, &counted{2, 5}, nil); steps != 2 || ok {
		t.Error(steps, ok)
	}
}
