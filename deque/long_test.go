package deque_test

import (
	"math"
	"math/rand/v2"
	"slices"
	"testing"

	"callboy/api"
)

// anyAct is a call of one of so many threads: mostly one that may be.
func anyAct(c *rand.Rand, g *rig, threads int) act {
	if c.IntN(20) == 0 {
		wrong := wrongActs()
		return wrong[c.IntN(len(wrong))]
	}
	return goodAct(c, g, c.IntN(threads), 1)
}

// goodAct is a thread's next call: a step, or a Begin, if it has nothing under way; a Push rather than a Pop as bias says.
func goodAct(c *rand.Rand, g *rig, thread, bias int) act {
	switch {
	case c.IntN(50) == 0:
		return act{step: c.IntN(2) == 0, thread: thread, op: c.IntN(3), v: 999}
	case g.d.Busy(thread):
		return act{step: true, thread: thread}
	case thread > 0:
		return act{thread: thread, op: steal, v: c.Int64()}
	case c.IntN(bias+1) == 0:
		return act{op: pop, v: c.Int64()}
	}
	return act{op: push, v: int64(c.Uint64())}
}

// habit is how one says who is next.
type habit struct {
	name string
	next func(c *rand.Rand, k, threads int) int
}

func habits() []habit {
	return []habit{
		{"anyone", func(c *rand.Rand, k, threads int) int { return c.IntN(threads) }},
		{"the owner rather", func(c *rand.Rand, k, threads int) int { return c.IntN(threads) * c.IntN(2) }},
		{"thieves rather", func(c *rand.Rand, k, threads int) int { return max(c.IntN(threads), c.IntN(threads)) }},
		{"in turn", func(c *rand.Rand, k, threads int) int { return k % threads }},
		{"whole, mostly", func(c *rand.Rand, k, threads int) int { return k / 6 % threads }},
		{"the last one sleeps long", func(c *rand.Rand, k, threads int) int {
			if k%101 == 0 {
				return threads - 1
			}
			return c.IntN(max(threads-1, 1))
		}},
		{"the owner sleeps long", func(c *rand.Rand, k, threads int) int {
			if k%37 < 8 {
				return 0
			}
			return c.IntN(threads)
		}},
	}
}

// counts is how often each thing has happened.
type counts struct{ full, nothing, popped, stolen, tooLate, none int }

func (n *counts) add(x answer) {
	switch {
	case !x.done.Over:
	case x.done.Err == api.ErrFull:
		n.full++
	case x.done.Err == api.ErrTaken:
		n.tooLate++
	case x.done.Op == pop && x.done.Err == api.ErrEmpty:
		n.nothing++
	case x.done.Op == steal && x.done.Err == api.ErrEmpty:
		n.none++
	case x.done.Op == pop:
		n.popped++
	case x.done.Op == steal:
		n.stolen++
	}
}

// The owner and up to seven thieves, long, in each habit, at deques of several sizes.
func TestLongRows(t *testing.T) { // P9.1, P9.2, P9.3
	for _, size := range []int{1, 2, 3, 8, 63, 64} {
		var n counts
		for seed, h := range habits() {
			for threads := 1; threads <= api.MaxThreads; threads++ {
				c := chance(100*size + 10*seed + threads)
				g := rigOf(size)
				for k := range 2500 {
					a := goodAct(c, g, h.next(c, k, threads), k/400%3*2)
					n.add(g.does(t, h.name, a))
				}
				g.endAll(t, h.name)
			}
		}
		if n.full == 0 || n.nothing == 0 || n.popped == 0 || n.stolen == 0 || n.tooLate == 0 || n.none == 0 {
			t.Errorf("size %d: something never happened: %+v", size, n)
		}
	}
}

// endAll ends what is under way; then what stands there is what was pushed and didn't come out.
func (g *rig) endAll(t *testing.T, name string) {
	t.Helper()
	for thread := range api.MaxThreads {
		if g.d.Busy(thread) {
			g.ends(t, name, thread)
		}
	}
	if !slices.Equal(g.d.Items(), g.l.list) || len(g.d.Items()) != g.d.Bottom()-g.d.Top() {
		t.Fatalf("%s: %v, not %v", name, g.d.Items(), g.l.list)
	}
}

// Numbers that are pushed once come out once at most, and all that don't are there in the end.
func TestEachComesOutOnce(t *testing.T) { // P9.2
	for _, size := range []int{1, 2, 5, 64} {
		for seed, h := range habits() {
			c := chance(1000*size + seed)
			g := rigOf(size)
			out, pushed := map[int64]bool{}, []int64{}
			last := int64(math.MinInt64)
			for k := range 6000 {
				a := goodAct(c, g, h.next(c, k, api.MaxThreads), 2)
				if a.op == push && !a.step {
					last++
					a.v = last
				}
				x := g.does(t, h.name, a)
				switch {
				case !x.done.Over || x.done.Err != api.OK:
				case x.done.Op == push:
					pushed = append(pushed, x.done.V)
				case out[x.done.V]:
					t.Fatalf("%s: %d comes out again", h.name, x.done.V)
				default:
					out[x.done.V] = true
				}
			}
			// A thief's end may still take one; the ledger knows of that.
			g.endAll(t, h.name)
			for _, v := range g.d.Items() {
				if out[v] || !slices.Contains(pushed, v) && v != last {
					t.Fatalf("%s: %d is there", h.name, v)
				}
			}
			if !slices.IsSorted(g.d.Items()) || len(out) < 10 {
				t.Fatalf("%s: %v there, %d came out", h.name, g.d.Items(), len(out))
			}
		}
	}
}

// All sorts of calls, right and wrong, by any threads.
func TestAnyCalls(t *testing.T) { // P9.1
	for size := 1; size <= 6; size++ {
		for threads := 1; threads <= api.MaxThreads; threads++ {
			c := chance(7000 + 10*size + threads)
			g := rigOf(size)
			for range 1500 {
				g.does(t, "any", anyAct(c, g, threads))
			}
			g.endAll(t, "any")
		}
	}
}
