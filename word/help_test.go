package word_test

import (
	"fmt"
	"math"
	"math/rand/v2"
	"testing"

	"callboy/api"
	"callboy/word"
)

const (
	threads = 8
	holder  = 0
)

// What the word is, what there is to do, and what that comes to.
const (
	idle, queued, running, awake, dead = 0, 1, 2, 3, 4
	wake, start, sleep, yield, die     = 0, 1, 2, 3, 4
	notOver, ok, push, again, gone     = -1, 0, 1, 2, 3
)

// act is one call: a Step, or a Begin.
type act struct {
	step       bool
	thread, op int
}

func (a act) String() string {
	if a.step {
		return fmt.Sprintf("Step(%d)", a.thread)
	}
	return fmt.Sprintf("Begin(%d, %d)", a.thread, a.op)
}

// answer is what a call answers; came is 0 of a Begin.
type answer struct {
	came int
	err  api.Errno
}

func did(w *word.Word, a act) answer {
	if a.step {
		came, err := w.Step(a.thread)
		return answer{came, err}
	}
	return answer{err: w.Begin(a.thread, a.op)}
}

// tale is a word told as the chapter tells it: of each operation by the number of its next access.
type tale struct {
	now   int
	holds bool
	turns [threads]turn
}

// turn is an operation under way; at is 0 if there is none.
type turn struct{ op, at, read int }

func taleOf() *tale { return &tale{now: queued} }

func (m *tale) busy(thread int) bool {
	return thread >= 0 && thread < threads && m.turns[thread].at > 0
}

func (m *tale) begins(a act) api.Errno {
	switch {
	case a.thread < 0 || a.thread >= threads, a.thread > 0 && a.op != 0, a.thread == 0 && (a.op < 1 || a.op > 4):
		return api.ErrArg
	case m.turns[a.thread].at > 0:
		return api.ErrBusy
	case a.op == start && m.holds, a.op > start && !m.holds:
		return api.ErrState
	}
	m.turns[a.thread] = turn{op: a.op, at: 1}
	return api.OK
}

func (m *tale) does(a act) answer {
	if !a.step {
		return answer{err: m.begins(a)}
	}
	if a.thread < 0 || a.thread >= threads {
		return answer{err: api.ErrArg}
	}
	u := &m.turns[a.thread]
	if u.at == 0 {
		return answer{err: api.ErrState}
	}
	came := m.access(u)
	if came != notOver {
		*u = turn{}
	}
	return answer{came: came}
}

func (m *tale) access(u *turn) int {
	switch u.op*10 + u.at {
	case 1: // Wake
		if m.now != idle && m.now != running {
			return ok
		}
		u.read, u.at = m.now, 2
	case 2:
		if m.now != u.read {
			u.read, u.at = 0, 1
			break
		}
		m.now++ // Idle to Queued, or Running to Awake
		if m.now == queued {
			return push
		}
		return ok
	case 11: // Start
		if m.now == queued {
			m.now, m.holds = running, true
			return ok
		}
		return gone
	case 21: // Sleep
		if m.now == running {
			m.now, m.holds = idle, false
			return ok
		}
		u.at = 2
	case 22:
		if m.now == awake {
			m.now = running
			return again
		}
		return gone
	case 31: // Yield
		m.holds = false
		if m.now == running || m.now == awake {
			m.now = queued
			return push
		}
		return gone
	case 41: // Die
		m.now, m.holds = dead, false
	}
	if u.op == die {
		return ok
	}
	return notOver
}

// ledger is what the promises speak of; it knows of no accesses.
type ledger struct {
	pushes, starts int
	sleeps         int          // how often the holder has slept
	died           bool         // a Die is over
	owed           bool         // the next Sleep is to come to Again
	op             [threads]int // what was begun last
	since          [threads]int // how often the holder had slept when that was begun
}

func ledgerOf() *ledger { return &ledger{pushes: 1} }

// hears is told of a call that was OK, what it came to, and what is to be seen behind it; it says what is wrong with that.
func (l *ledger) hears(a act, came int, w *word.Word) string {
	switch {
	case !a.step:
		l.op[a.thread], l.since[a.thread] = a.op, l.sleeps
	case came == notOver:
	case a.thread != holder:
		if wrong := l.wakeEnds(a.thread, came, w); wrong != "" {
			return wrong
		}
	default:
		if wrong := l.holderEnds(came, w); wrong != "" {
			return wrong
		}
	}
	isQueued := 0
	if w.Now() == queued {
		isQueued = 1
	}
	switch {
	case l.pushes != l.starts+isQueued:
		return fmt.Sprintf("there were %d Pushes and %d Starts, and the word is %d", l.pushes, l.starts, w.Now())
	case l.died && w.Now() != dead:
		return "who is dead lives"
	case w.Holds() != (w.Now() == running || w.Now() == awake):
		return "what runs isn't what is held"
	}
	return ""
}

func (l *ledger) wakeEnds(thread, came int, w *word.Word) string {
	switch {
	case came == push && w.Holds():
		return "who is held was queued"
	case came == push:
		l.pushes++
	case came != ok:
		return "a Wake comes to something else"
	case w.Now() == idle:
		return "a Wake is lost"
	case w.Holds() && l.since[thread] == l.sleeps:
		l.owed = true
	}
	return ""
}

func (l *ledger) holderEnds(came int, w *word.Word) string {
	owed := l.owed
	l.owed = false
	switch op := l.op[holder]; {
	case op == start && came == ok:
		l.starts++
	case op == start && came == gone:
	case op == sleep && came == again && w.Holds():
	case op == sleep && came == ok && owed:
		return "it sleeps, though somebody woke it"
	case op == sleep && came == ok && w.Now() == idle:
		l.sleeps++
	case op == yield && came == push:
		l.pushes++
	case op == die && came == ok:
		l.died = true
	default:
		return "the holder's operation comes to something else"
	}
	return ""
}

// rig is a word, held against its tale and its ledger at each call.
type rig struct {
	w *word.Word
	m *tale
	l *ledger
}

func rigOf() *rig { return &rig{word.New(), taleOf(), ledgerOf()} }

// does holds one call against the tale and the ledger, and then all that can be asked. (It and what calls it often leave t.Helper out, which would take most of the time.)
func (g *rig) does(t *testing.T, a act) answer {
	got, want := did(g.w, a), g.m.does(a)
	if got != want {
		t.Fatalf("%v answers %v, not %v", a, got, want)
	}
	g.holds(t, a)
	if got.err == api.OK {
		if wrong := g.l.hears(a, got.came, g.w); wrong != "" {
			t.Fatalf("%v answers %v, but %s", a, got, wrong)
		}
	}
	return got
}

func (g *rig) holds(t *testing.T, a act) {
	for thread := -1; thread <= threads; thread++ {
		if got := g.w.Busy(thread); got != g.m.busy(thread) {
			t.Fatalf("behind %v: Busy(%d): %v", a, thread, got)
		}
	}
	if g.w.Now() != g.m.now || g.w.Holds() != g.m.holds {
		t.Fatalf("behind %v: Now %d, Holds %v, not %d, %v", a, g.w.Now(), g.w.Holds(), g.m.now, g.m.holds)
	}
}

func (g *rig) begin(t *testing.T, thread, op int) {
	if x := g.does(t, act{thread: thread, op: op}); x != (answer{}) {
		t.Fatalf("Begin(%d, %d): %v", thread, op, x)
	}
}

// step is a thread's next access, and what it came to.
func (g *rig) step(t *testing.T, thread int) int {
	x := g.does(t, act{step: true, thread: thread})
	if x.err != api.OK {
		t.Fatalf("Step(%d): %v", thread, x)
	}
	return x.came
}

// steps is the same for many accesses, each of which is to come to what is said.
func (g *rig) steps(t *testing.T, thread int, want ...int) {
	t.Helper()
	for n, x := range want {
		if came := g.step(t, thread); came != x {
			t.Fatalf("%d of Step(%d): %d, not %d", n+1, thread, came, x)
		}
	}
}

// whole is an operation without anybody between, and what its accesses are to come to.
func (g *rig) whole(t *testing.T, thread, op int, want ...int) {
	t.Helper()
	g.begin(t, thread, op)
	g.steps(t, thread, want...)
}

func (g *rig) is(t *testing.T, want int) {
	t.Helper()
	if g.w.Now() != want {
		t.Fatalf("the word is %d, not %d", g.w.Now(), want)
	}
}

// ends lets all threads end what they have under way.
func (g *rig) ends(t *testing.T) {
	for thread := range threads {
		for n := 0; g.w.Busy(thread); n++ {
			g.step(t, thread)
			if n == 4 {
				t.Fatalf("nobody is between, but %d doesn't end", thread)
			}
		}
	}
}

// who is a rig whose word is that, with nothing under way.
func who(t *testing.T, now int) *rig {
	t.Helper()
	g := rigOf()
	if now != queued {
		g.whole(t, holder, start, ok)
	}
	switch now {
	case idle:
		g.whole(t, holder, sleep, ok)
	case awake:
		g.whole(t, 3, wake, notOver, ok)
	case dead:
		g.whole(t, holder, die, ok)
	}
	g.is(t, now)
	return g
}

// farNumbers are no threads and no ops.
func farNumbers() []int {
	return []int{-1, -2, 8, 9, 15, 16, 64, 256, 257, math.MinInt, math.MinInt32, math.MaxInt32, math.MaxInt, 1 << 32, 1<<32 + 1, -1 << 32}
}

// refused does all that answers an error just now, and nothing else.
func (g *rig) refused(t *testing.T) {
	t.Helper()
	for _, far := range farNumbers() {
		for op := -1; op <= 5; op++ {
			g.fails(t, act{thread: far, op: op}, api.ErrArg)
		}
		for thread := range threads {
			g.fails(t, act{thread: thread, op: far}, api.ErrArg)
		}
		g.fails(t, act{step: true, thread: far}, api.ErrArg)
		if g.w.Busy(far) {
			t.Fatalf("Busy(%d)", far)
		}
	}
	for thread := range threads {
		busy := g.w.Busy(thread)
		if !busy {
			g.fails(t, act{step: true, thread: thread}, api.ErrState)
		}
		for op := wake; op <= 5; op++ {
			a := act{thread: thread, op: op}
			switch {
			case op == 5, (thread == holder) == (op == wake):
				g.fails(t, a, api.ErrArg)
			case busy:
				g.fails(t, a, api.ErrBusy)
			case thread == holder && (op == start) == g.w.Holds():
				g.fails(t, a, api.ErrState)
			}
		}
	}
}

func (g *rig) fails(t *testing.T, a act, want api.Errno) {
	t.Helper()
	if x := g.does(t, a); x != (answer{err: want}) {
		t.Fatalf("%v answers %v, not %d", a, x, want)
	}
}

// chance is the same at each run of the tests.
func chance(seed int) *rand.Rand { return rand.New(rand.NewPCG(11, uint64(seed))) }
