package clear

import (
	"slices"
	"testing"

	"sherpa/desc"
	"sherpa/mem"
)

// mix is machines that clear one address, and what came of it so far.
type mix struct {
	claim
	m           *mem.Mem
	clears      []Clear
	done        []bool
	steps       []int
	frees, wins int  // how often the word was freed, and the descriptor set Won
	wonFirst    bool // it was Won when the word was freed
}

// mixed is so many machines that clear a claim.
func mixed(t *testing.T, c claim, machines int) mix {
	t.Helper()
	x := mix{claim: c, m: c.made(t), done: make([]bool, machines), steps: make([]int, machines)}
	for range machines {
		x.clears = append(x.clears, *New(c.l, c.addr))
	}
	return x
}

// copied is the machines and the memory as they are.
func (x mix) copied() mix {
	x.m = x.m.Copy()
	x.clears, x.done, x.steps = slices.Clone(x.clears), slices.Clone(x.done), slices.Clone(x.steps)
	return x
}

// step lets a machine do a step, and counts what came of it.
func (x *mix) step(i int) {
	x.done[i] = x.clears[i].Step(x.m)
	x.steps[i]++
	a := x.m.Last()
	if a.Kind != mem.Cas || !a.Ok {
		return
	}
	if a.Addr == x.l.Desc(x.u) {
		x.wins++
		return
	}
	x.frees++
	x.wonFirst = desc.Get(x.m.Peek(x.l.Desc(x.u))).Is(desc.Won)
}

// walk tries all orders of the steps that are left; how many orders there are.
func (x mix) walk(t *testing.T) int {
	t.Helper()
	n := 0
	for i := range x.clears {
		if !x.done[i] {
			next := x.copied()
			next.step(i)
			n += next.walk(t)
		}
	}
	if n > 0 {
		return n
	}
	x.right(t)
	return 1
}

// right asks whether the claim was taken away once, and the descriptor set Won
// once ahead of that, if it was Proposed, by no more steps than the list has.
func (x mix) right(t *testing.T) {
	t.Helper()
	behind, wins := x.desc(t), 0
	if x.d.Is(desc.Proposed) {
		behind, wins = x.won(t), 1
	}
	if x.frees != 1 || x.wins != wins || x.wonFirst != x.d.Is(desc.Proposed, desc.Won) {
		t.Fatal("frees", x.frees, "wins", x.wins, "Won first", x.wonFirst)
	}
	if slices.Max(x.steps) > 4 {
		t.Fatal("steps", x.steps)
	}
	x.behind(t, x.m, x.freed(t), behind)
}

func TestSomeClearOneAddress(t *testing.T) {
	dirty := of1(of(2, 3), 2, 0, 9)
	dirty.above, dirty.aside = above, aside
	for _, c := range []claim{of1(of(2, 3), 1, 1, 262143), dirty, of1(of(1, 1), of(1, 1).Head(3), 0, 0)} {
		for machines, least := range []int{1, 20, 1000} {
			if orders := mixed(t, c, machines+1).walk(t); orders < least {
				t.Error(c, machines+1, "orders:", orders)
			}
		}
	}
}

func TestSomeClearAClaimThatIsNotProposed(t *testing.T) {
	c := of1(of(2, 3), 1, 1, 9)
	for _, status := range []int{desc.Idle, desc.Empty, desc.Won, desc.Lost, desc.Done} {
		c.d.Status = status
		for machines, least := range []int{1, 6, 90} {
			if orders := mixed(t, c, machines+1).walk(t); orders < least {
				t.Error(c, machines+1, "orders:", orders)
			}
		}
	}
}
