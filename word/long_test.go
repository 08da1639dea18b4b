package word_test

import (
	"math/rand/v2"
	"testing"
)

// anyAct is a call of the holder or of one of so many wakers: mostly one that may be.
func anyAct(c *rand.Rand, g *rig, wakers int) act {
	if c.IntN(20) == 0 {
		far := append(farNumbers(), 0, 1, 2, 3, 4, 5, 6, 7)
		return act{c.IntN(2) == 0, far[c.IntN(len(far))], far[c.IntN(len(far))]}
	}
	thread := c.IntN(wakers + 1)
	if g.w.Busy(thread) {
		return act{step: true, thread: thread}
	}
	if thread != holder {
		return act{thread: thread, op: wake}
	}
	if c.IntN(4000) == 0 {
		return act{thread: thread, op: die}
	}
	return act{thread: thread, op: 1 + c.IntN(3)}
}

func TestAnyCalls(t *testing.T) { // P11.1, P11.2, P11.3
	for wakers := range threads {
		for seed := range 10 {
			c := chance(100*wakers + seed)
			g := rigOf()
			for range 1500 {
				g.does(t, anyAct(c, g, wakers))
			}
			g.ends(t)
		}
	}
}

// turns is how one says who is next.
type turns struct {
	name string
	next func(c *rand.Rand, k, wakers int) int
}

func allTurns() []turns {
	return []turns{
		{"anyone", func(c *rand.Rand, k, wakers int) int { return c.IntN(wakers + 1) }},
		{"the holder rather", func(c *rand.Rand, k, wakers int) int { return c.IntN(wakers+1) * c.IntN(2) }},
		{"in turn", func(c *rand.Rand, k, wakers int) int { return k % (wakers + 1) }},
		{"whole, mostly", func(c *rand.Rand, k, wakers int) int { return k / 2 % (wakers + 1) }},
		{"a holder that does much", func(c *rand.Rand, k, wakers int) int { return max(0, k%11-10+c.IntN(wakers+1)) }},
		{"the last waker sleeps long", func(c *rand.Rand, k, wakers int) int {
			if k%101 == 0 {
				return wakers
			}
			return c.IntN(wakers)
		}},
		{"the holder sleeps long", func(c *rand.Rand, k, wakers int) int {
			if k%60 < 24 {
				return 1 + c.IntN(wakers)
			}
			return holder
		}},
	}
}

// The holder and one to seven wakers, long; the holder in each habit.
func TestLongRows(t *testing.T) { // P11.1, P11.2, P11.3
	anew := 0 // how often a Wake was too late
	for seed, x := range allTurns() {
		slept, pushed := 0, 0
		for wakers := 1; wakers <= 7; wakers++ {
			for n, habit := range [][]int{{sleep}, {sleep, yield}, {yield, sleep, sleep}, {yield}} {
				c := chance(1000*seed + 10*wakers + n)
				p := &play{rig: rigOf(), habit: habit}
				for k := range 1500 {
					thread := x.next(c, k, wakers)
					second := p.m.turns[thread].at == 2
					came := p.next(t, thread)
					if second && came == notOver {
						anew++
					}
				}
				slept += p.l.sleeps
				pushed += p.l.pushes
				p.ends(t)
			}
		}
		if slept < 100 || pushed < 200 {
			t.Errorf("%s: hardly anything was done: %d, %d", x.name, slept, pushed)
		}
	}
	if anew < 1000 {
		t.Error("hardly any Wake was too late:", anew)
	}
}

// All threads but the dying one go on as before; who is dead stays so.
func TestLongBehindDie(t *testing.T) { // P11.1, P11.3
	for seed, x := range allTurns() {
		for lives := range 12 {
			c := chance(5000 + 100*seed + lives)
			var habit []int
			for range lives {
				habit = append(habit, sleep+c.IntN(2))
			}
			p := &play{rig: rigOf(), habit: append(habit, die)}
			for k := 0; k < 5000 && !p.l.died; k++ {
				p.next(t, x.next(c, k, 7))
			}
			for k := range 300 {
				p.next(t, x.next(c, k, 7))
			}
			p.ends(t)
			p.is(t, dead)
		}
	}
}
