package pids_test

import (
	"fmt"
	"maps"
	"math"
	"math/rand/v2"
	"slices"
	"testing"

	"callboy/api"
	"callboy/pids"
)

const (
	slots       = 32
	generations = 1048576
)

// act is one call: a Free of a pid, or an Alloc.
type act struct {
	free bool
	pid  int64
}

func (a act) String() string {
	if a.free {
		return fmt.Sprintf("Free(%d)", a.pid)
	}
	return "Alloc()"
}

// answer is what a call answers; pid is 0 of a Free.
type answer struct {
	pid int64
	err api.Errno
}

func did(x *pids.Table, a act) answer {
	if a.free {
		return answer{err: x.Free(a.pid)}
	}
	pid, err := x.Alloc()
	return answer{pid, err}
}

// tale is a table told by its live pids alone, and by how often each slot was freed.
type tale struct {
	live  map[int64]int // the slot of each
	freed [slots]int
}

func taleOf() *tale { return &tale{live: map[int64]int{}} }

func (m *tale) does(a act) answer {
	if a.free {
		s, ok := m.live[a.pid]
		if !ok {
			return answer{err: api.ErrIndex}
		}
		delete(m.live, a.pid)
		m.freed[s]++
		return answer{}
	}
	taken := slices.Collect(maps.Values(m.live))
	for s, n := range m.freed {
		if !slices.Contains(taken, s) && n != generations {
			pid := pidOf(s, n)
			m.live[pid] = s
			return answer{pid: pid}
		}
	}
	return answer{err: api.ErrFull}
}

// all is the live pids by their slots.
func (m *tale) all() []int64 {
	var list []int64
	for s := range slots {
		for pid, at := range m.live {
			if at == s {
				list = append(list, pid)
			}
		}
	}
	return list
}

// pidOf is the pid of a slot that was freed so often.
func pidOf(s, freed int) int64 { return int64(freed)*slots + int64(s) + 1 }

// ledger is what P12.2 speaks of; it knows of no generations.
type ledger struct {
	handed map[int64]bool // every pid that ever was; whether it still lives
	freed  []int64
}

// hears is told of a call that was OK; it says what is wrong with what is to be seen behind it.
func (l *ledger) hears(a act, pid int64, x *pids.Table) string {
	if a.free {
		l.handed[a.pid] = false
		l.freed = append(l.freed, a.pid)
	} else {
		if _, ok := l.handed[pid]; ok {
			return "it was handed out before"
		}
		l.handed[pid] = true
	}
	if x.Live(0) || l.handed[0] {
		return "0 is somebody's"
	}
	seen := map[int]bool{}
	for pid := range x.All() {
		s, ok := x.Slot(pid)
		if !ok || s < 0 || s >= slots || seen[s] || !l.handed[pid] {
			return fmt.Sprintf("%d has the slot %d", pid, s)
		}
		seen[s] = true
	}
	for _, pid := range l.freed[max(0, len(l.freed)-50):] {
		if x.Live(pid) {
			return fmt.Sprintf("%d lives again", pid)
		}
	}
	return ""
}

// rig is a table, held against its tale and its ledger at each call.
type rig struct {
	x *pids.Table
	m *tale
	l *ledger
}

func rigOf() *rig { return &rig{pids.New(), taleOf(), &ledger{handed: map[int64]bool{}}} }

func (g *rig) does(t *testing.T, a act) answer {
	got, want := did(g.x, a), g.m.does(a)
	if got != want {
		t.Fatalf("%v answers %v, not %v", a, got, want)
	}
	if got.err == api.OK {
		if wrong := g.l.hears(a, got.pid, g.x); wrong != "" {
			t.Fatalf("%v answers %v, but %s", a, got, wrong)
		}
	}
	return got
}

// alloc is an Alloc that is to answer this pid.
func (g *rig) alloc(t *testing.T, want int64) {
	t.Helper()
	if x := g.does(t, act{}); x != (answer{pid: want}) {
		t.Fatalf("Alloc: %v, not %d", x, want)
	}
}

// frees is a Free of each of these, which are to live.
func (g *rig) frees(t *testing.T, list ...int64) {
	t.Helper()
	for _, pid := range list {
		if x := g.does(t, act{free: true, pid: pid}); x != (answer{}) {
			t.Fatalf("Free %d: %v", pid, x)
		}
	}
}

// takes lets so many more be taken.
func (g *rig) takes(t *testing.T, count int) {
	t.Helper()
	for range count {
		if x := g.does(t, act{}); x.err != api.OK {
			t.Fatalf("Alloc: %v", x)
		}
	}
}

// full is an Alloc for which there is no slot; it changes nothing.
func (g *rig) full(t *testing.T) {
	t.Helper()
	for range 3 {
		if x := g.does(t, act{}); x != (answer{err: api.ErrFull}) {
			t.Fatalf("Alloc: %v, not ErrFull", x)
		}
		g.holds(t)
	}
}

// holds asks all that can be asked, of every slot's pid and of those around it.
func (g *rig) holds(t *testing.T) {
	t.Helper()
	if n := g.x.Len(); n != len(g.m.live) {
		t.Fatalf("Len %d, not %d", n, len(g.m.live))
	}
	if got, want := allOf(g.x), g.m.all(); !slices.Equal(got, want) {
		t.Fatalf("All gives %v, not %v", got, want)
	}
	for s, n := range g.m.freed {
		for _, freed := range []int{n - 2, n - 1, n, n + 1, n + 2, -n, generations - 1, generations} {
			g.asks(t, pidOf(s, freed))
		}
	}
}

// asks asks for one pid.
func (g *rig) asks(t *testing.T, pid int64) {
	t.Helper()
	want, live := g.m.live[pid]
	if s, ok := g.x.Slot(pid); s != want || ok != live {
		t.Fatalf("Slot(%d): %d %v, not %d %v", pid, s, ok, want, live)
	}
	if ok := g.x.Live(pid); ok != live {
		t.Fatalf("Live(%d): %v", pid, ok)
	}
}

// refused hands in every pid that isn't live of those that might be taken for one.
func (g *rig) refused(t *testing.T) {
	t.Helper()
	list := farPids()
	for s, n := range g.m.freed {
		for _, freed := range []int{n - 2, n - 1, n, n + 1, n + 2, n + 7, -n - 1, generations - 1, generations, generations + 1} {
			list = append(list, pidOf(s, freed), -pidOf(s, freed))
		}
	}
	for pid := range g.m.live {
		// Bits that a narrower number wouldn't have.
		list = append(list, -pid, pid+1<<31, pid+1<<32, pid-1<<32, pid+1<<40, pid+math.MinInt64, pid|1<<62)
	}
	for _, pid := range list {
		if _, ok := g.m.live[pid]; ok {
			continue
		}
		g.asks(t, pid)
		if x := g.does(t, act{free: true, pid: pid}); x != (answer{err: api.ErrIndex}) {
			t.Fatalf("Free %d: %v", pid, x)
		}
	}
	g.holds(t)
}

// farPids are never handed out.
func farPids() []int64 {
	return []int64{
		0, -1, -2, -31, -32, -33, -64, math.MinInt64, math.MinInt64 + 1, math.MinInt64 + 2, math.MinInt64 + 32, math.MinInt64 + 33,
		math.MaxInt64, math.MaxInt64 - 1, math.MaxInt64 - 30, math.MaxInt64 - 31, math.MaxInt64 - 32, math.MinInt32, math.MaxInt32,
		1 << 32, 1<<32 + 1, 1<<32 + 2, -1 << 32, 1 - 1<<32, 1 << 40, 1 << 62, 1<<62 + 1,
		slots*generations + 1, slots*generations + 2, slots*generations + 32, slots*(generations+1) + 1,
	}
}

func allOf(x *pids.Table) []int64 { return slices.Collect(x.All()) }

// upTo is 1, 2 and so on: the pids of a table's first slots.
func upTo(count int) []int64 {
	var list []int64
	for n := range count {
		list = append(list, int64(n)+1)
	}
	return list
}

// some is a rig with so many taken.
func some(t *testing.T, count int) *rig {
	t.Helper()
	g := rigOf()
	g.takes(t, count)
	return g
}

// chance is the same at each run of the tests.
func chance(seed int) *rand.Rand { return rand.New(rand.NewPCG(12, uint64(seed))) }
