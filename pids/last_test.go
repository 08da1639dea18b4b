package pids_test

import (
	"slices"
	"testing"

	"callboy/api"
	"callboy/pids"
)

// last is a slot's last pid.
func last(s int) int64 { return pidOf(s, generations-1) }

// uses lets the lowest free slot, which is s, be taken and freed to and fro, from its first generation on; in the end its last pid lives.
func uses(t *testing.T, x *pids.Table, s int) {
	t.Helper()
	for n := range generations {
		if pid, err := x.Alloc(); pid != pidOf(s, n) || err != api.OK {
			t.Fatalf("the slot %d, the generation %d: %d, %d", s, n, pid, err)
		}
		if n == generations-1 {
			return
		}
		if err := x.Free(pidOf(s, n)); err != api.OK {
			t.Fatalf("Free %d: %d", pidOf(s, n), err)
		}
		if x.Live(pidOf(s, n)) {
			t.Fatalf("%d lives", pidOf(s, n))
		}
	}
}

// worn is a rig whose slots of these numbers, rising from 0 on, were freed for the last time.
func worn(t *testing.T, count int) *rig {
	t.Helper()
	g := rigOf()
	for s := range count {
		uses(t, g.x, s)
		g.m.freed[s] = generations - 1
		g.m.live[last(s)] = s
		g.l.handed[last(s)] = true
		g.holds(t)
		g.frees(t, last(s))
		g.holds(t)
	}
	return g
}

// A slot has 1048576 generations, and then is never taken again; the next one is.
func TestSlotsLastGeneration(t *testing.T) { // P12.1, P12.2
	g := rigOf()
	uses(t, g.x, 0)
	if s, ok := g.x.Slot(last(0)); s != 0 || !ok || last(0) != 33554401 || !g.x.Live(33554401) {
		t.Errorf("the last pid: %d %v", s, ok)
	}
	g = worn(t, 1)
	if g.x.Len() != 0 || g.x.Live(last(0)) || g.x.Live(last(0)+slots) {
		t.Error("behind the last Free:", allOf(g.x))
	}
	g.refused(t)
	for s := 1; s < slots; s++ {
		g.alloc(t, pidOf(s, 0))
	}
	g.full(t)
	g.refused(t)
	if got := allOf(g.x); !slices.Equal(got, upTo(slots)[1:]) || g.x.Len() != slots-1 {
		t.Error("31 are taken:", got)
	}
	g.frees(t, 9)
	g.alloc(t, 41)
	g.full(t)
}

// A slot in the middle is used up, and those around it go on.
func TestUsedUpInTheMiddle(t *testing.T) { // P12.1
	g := some(t, slots)
	g.frees(t, 21)
	for n := 1; n < generations; n++ {
		if pid, err := g.x.Alloc(); pid != pidOf(20, n) || err != api.OK || g.x.Free(pid) != api.OK {
			t.Fatalf("the generation %d: %d, %d", n, pid, err)
		}
	}
	g.m.freed[20] = generations
	g.full(t)
	g.refused(t)
	g.frees(t, 32, 20, 22)
	for _, pid := range []int64{52, 54, 64} {
		g.alloc(t, pid)
	}
	g.full(t)
}

// All slots are used up: none is taken, and none can be.
func TestAllUsedUp(t *testing.T) { // P12.1, P12.2
	g := worn(t, slots)
	if g.x.Len() != 0 || len(allOf(g.x)) != 0 {
		t.Error("All gives", allOf(g.x))
	}
	g.full(t)
	g.refused(t)
	if last(slots-1) != slots*generations || g.x.Live(slots*generations) {
		t.Error("the last pid of all")
	}
}
