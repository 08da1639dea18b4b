package pids_test

import (
	"slices"
	"testing"

	"callboy/api"
	"callboy/pids"
)

func TestExample(t *testing.T) { // P12.1
	x := pids.New()
	for _, step := range []struct{ want, free int64 }{{1, 0}, {2, 1}, {33, 0}} {
		if pid, err := x.Alloc(); pid != step.want || err != api.OK {
			t.Error("Alloc:", pid, err)
		}
		if step.free > 0 {
			if err := x.Free(step.free); err != api.OK {
				t.Error("Free:", err)
			}
		}
	}
	if x.Live(1) || !x.Live(33) || !x.Live(2) || x.Len() != 2 || !slices.Equal(allOf(x), []int64{33, 2}) {
		t.Error("then", allOf(x))
	}
}

// Every row of up to six calls out of these, so that what a call leaves is met by each other one.
func TestEveryShortRow(t *testing.T) { // P12.1, P12.2
	choices := []act{{}, {true, 1}, {true, 2}, {true, 3}, {true, 33}, {true, 34}, {true, 65}}
	rows := 1
	for size := range 7 {
		for code := range rows {
			g := rigOf()
			for k, rest := 0, code; k < size; k, rest = k+1, rest/len(choices) {
				g.does(t, choices[rest%len(choices)])
			}
			for _, pid := range []int64{0, 1, 2, 3, 4, 5, 6, 7, 32, 33, 34, 35, 36, 65, 66, 97} {
				g.asks(t, pid)
			}
			if !slices.Equal(allOf(g.x), g.m.all()) || g.x.Len() != len(g.m.live) {
				t.Fatalf("All gives %v, Len %d, not %v", allOf(g.x), g.x.Len(), g.m.all())
			}
		}
		rows *= len(choices)
	}
}

// Rows in which there are now many, now few, and in which some that were freed or never were are freed.
func TestLongRows(t *testing.T) { // P12.1, P12.2
	for seed := range 24 {
		c, g := chance(seed), rigOf()
		most, least := 0, slots
		for k := range 3000 {
			switch c.IntN(8) {
			case 0:
				g.does(t, act{free: true, pid: anyPid(c.IntN, g)})
			case 1, 2:
				g.freesAny(t, c.IntN)
			default:
				g.does(t, act{})
			}
			if k/150%2 == seed%2 {
				g.freesAny(t, c.IntN)
			}
			most, least = max(most, g.x.Len()), min(least, g.x.Len())
			if k%7 == 0 {
				g.holds(t)
			}
		}
		if most < slots || least > 0 {
			t.Errorf("%d: from %d to %d", seed, least, most)
		}
		g.refused(t)
	}
}

func (g *rig) freesAny(t *testing.T, n func(int) int) {
	if list := g.m.all(); len(list) > 0 {
		g.frees(t, list[n(len(list))])
	}
}

// anyPid may be live, freed, or one that never was.
func anyPid(n func(int) int, g *rig) int64 {
	s := n(slots)
	return pidOf(s, max(g.m.freed[s]+n(4)-2, -2))
}

func TestAllTaken(t *testing.T) { // P12.1
	g := rigOf()
	for n := range slots {
		g.holds(t)
		g.refused(t)
		g.alloc(t, int64(n)+1)
	}
	g.full(t)
	g.refused(t)
	if got := allOf(g.x); !slices.Equal(got, upTo(slots)) || g.x.Len() != slots {
		t.Error("All gives", got)
	}
}

// Any one freed among all: its slot is the next one that is taken.
func TestOneFreedAmongAll(t *testing.T) { // P12.1, P12.2
	for s := range slots {
		g := some(t, slots)
		for n := range 5 {
			g.frees(t, pidOf(s, n))
			g.holds(t)
			g.refused(t)
			if g.x.Len() != slots-1 || g.x.Live(pidOf(s, n)) {
				t.Fatalf("behind the Free of the slot %d: %d", s, g.x.Len())
			}
			g.alloc(t, pidOf(s, n+1))
			g.full(t)
			if got, ok := g.x.Slot(pidOf(s, n+1)); got != s || !ok {
				t.Fatalf("the slot %d, not %d", got, s)
			}
		}
	}
}

// Every choice of ten slots freed, and some of all 32, in some order: the lowest is taken first, in its own next generation.
func TestLowestSlotFirst(t *testing.T) { // P12.1
	for choice := range 1 << 10 {
		tryChoice(t, choice, uint32(choice), 10)
	}
	for seed := range 300 {
		tryChoice(t, seed, chance(100+seed).Uint32(), slots)
	}
}

func tryChoice(t *testing.T, seed int, choice uint32, count int) {
	t.Helper()
	g := some(t, count)
	var free []int64
	for s := range count {
		if choice>>s&1 == 1 {
			free = append(free, pidOf(s, 0))
		}
	}
	mixed := slices.Clone(free)
	c := chance(1000 + seed)
	c.Shuffle(len(mixed), func(i, j int) { mixed[i], mixed[j] = mixed[j], mixed[i] })
	g.frees(t, mixed...)
	g.holds(t)
	for _, pid := range free {
		g.alloc(t, pid+slots)
	}
	g.holds(t)
	if count < slots {
		g.alloc(t, int64(count)+1)
	} else {
		g.full(t)
	}
}

// All are freed and taken, in whatever order, some times.
func TestAllFreedAgainAndAgain(t *testing.T) { // P12.1, P12.2
	g, c := rigOf(), chance(5)
	for n := range 20 {
		for s := range slots {
			g.alloc(t, pidOf(s, n))
		}
		g.full(t)
		for _, s := range c.Perm(slots) {
			g.frees(t, pidOf(s, n))
		}
		g.holds(t)
		g.refused(t)
		if g.x.Len() != 0 || len(allOf(g.x)) != 0 {
			t.Fatal(allOf(g.x))
		}
	}
}

func TestWrongPids(t *testing.T) { // P12.1, P12.2
	for _, count := range []int{0, 1, 2, 17, 31, 32} {
		g := some(t, count)
		g.refused(t)
		for _, pid := range farPids() {
			if g.x.Free(pid) != api.ErrIndex || g.x.Live(pid) {
				t.Fatalf("Free %d of %d", pid, count)
			}
			if s, ok := g.x.Slot(pid); s != 0 || ok {
				t.Fatalf("Slot(%d): %d %v", pid, s, ok)
			}
		}
		for pid := int64(1); pid <= int64(count); pid += 2 {
			g.frees(t, pid)
			for range 3 {
				if g.x.Free(pid) != api.ErrIndex {
					t.Fatalf("Free %d again", pid)
				}
			}
		}
		g.refused(t)
	}
}

// Beside a number of a slot that is taken stands one of the same slot in each other generation.
func TestOtherGenerations(t *testing.T) { // P12.1, P12.2
	g := some(t, 3)
	for n := range 60 {
		g.frees(t, pidOf(1, n))
		g.alloc(t, pidOf(1, n+1))
	}
	for n := -70; n < 2000; n++ {
		if live := n == 60; g.x.Live(pidOf(1, n)) != live {
			t.Errorf("the generation %d: %v", n, !live)
		}
		if n != 60 && g.x.Free(pidOf(1, n)) != api.ErrIndex {
			t.Errorf("Free of the generation %d", n)
		}
	}
	g.holds(t)
}

func TestNil(t *testing.T) { // P12.1
	var x *pids.Table
	for range 2 {
		if pid, err := x.Alloc(); pid != 0 || err != api.ErrArg {
			t.Error("Alloc:", pid, err)
		}
		for _, pid := range append(farPids(), upTo(70)...) {
			if err := x.Free(pid); err != api.ErrArg {
				t.Errorf("Free %d: %d", pid, err)
			}
			if x.Live(pid) {
				t.Errorf("Live %d", pid)
			}
			if s, ok := x.Slot(pid); s != 0 || ok {
				t.Errorf("Slot %d: %d %v", pid, s, ok)
			}
		}
		if x.Len() != 0 {
			t.Error("Len:", x.Len())
		}
		for pid := range x.All() {
			t.Error("All gives", pid)
		}
	}
}

// A table that New didn't make isn't spoken of; it is one in which all slots are free.
func TestNotMadeByNew(t *testing.T) { // W0
	g := rigOf()
	g.x = new(pids.Table)
	g.holds(t)
	g.refused(t)
	g.takes(t, slots)
	g.full(t)
	g.frees(t, 4)
	g.alloc(t, 36)
	g.holds(t)
}

// Tables know nothing of one another, and tables to which the same happens answer the same.
func TestTablesByThemselves(t *testing.T) { // P12.1, R6
	a, b, other := rigOf(), rigOf(), some(t, 9)
	c := chance(31)
	for range 500 {
		d := act{}
		if c.IntN(2) == 0 {
			d = act{free: true, pid: anyPid(c.IntN, a)}
		}
		if x, y := a.does(t, d), b.does(t, d); x != y {
			t.Fatalf("%v answers %v and %v", d, x, y)
		}
		if !slices.Equal(allOf(a.x), allOf(b.x)) {
			t.Fatalf("%v and %v", allOf(a.x), allOf(b.x))
		}
	}
	other.holds(t)
	other.alloc(t, 10)
}
