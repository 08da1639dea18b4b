package mpsc_test

import (
	"fmt"
	"math"
	"math/rand/v2"
	"slices"
	"testing"

	"callboy/api"
	"callboy/mpsc"
)

const (
	taker   = 0
	threads = 8
	most    = 65536
)

// act is one call: a Step, or a Begin.
type act struct {
	step   bool
	thread int
	v      int64
}

func (a act) String() string {
	if a.step {
		return fmt.Sprintf("Step(%d)", a.thread)
	}
	return fmt.Sprintf("Begin(%d, %d)", a.thread, a.v)
}

// answer is what a call answers; done is nothing of a Begin.
type answer struct {
	done mpsc.Done
	err  api.Errno
}

func did(q *mpsc.Queue, a act) answer {
	if a.step {
		done, err := q.Step(a.thread)
		return answer{done, err}
	}
	return answer{err: q.Begin(a.thread, a.v)}
}

// wasPut and cameTo are what a Put and a Take end with.
func wasPut(v int64) mpsc.Done { return mpsc.Done{Over: true, V: v} }

func cameTo(v int64, err api.Errno) mpsc.Done {
	return mpsc.Done{Over: true, Take: true, V: v, Err: err}
}

func items(q *mpsc.Queue) []int64 { return slices.Collect(q.Items()) }

// tale is a queue told by the numbers of its nodes, as the chapter tells it.
type tale struct {
	v          []int64
	next       []int // 0 is none: the node 0 is nobody's next
	head, tail int
	turns      [threads]turn
}

// turn is an operation under way: left is how many accesses it still has.
type turn struct{ left, node, read int }

func taleOf() *tale { return &tale{v: []int64{0}, next: []int{0}} }

func (m *tale) busy(thread int) bool {
	return thread >= 0 && thread < threads && m.turns[thread].left > 0
}

func (m *tale) items() []int64 {
	var list []int64
	for n := m.next[m.tail]; n > 0; n = m.next[n] {
		list = append(list, m.v[n])
	}
	return list
}

func (m *tale) does(a act) answer {
	if a.thread < 0 || a.thread >= threads {
		return answer{err: api.ErrArg}
	}
	u := &m.turns[a.thread]
	switch {
	case a.step && u.left == 0:
		return answer{err: api.ErrState}
	case a.step && a.thread == taker:
		return answer{done: m.take(u)}
	case a.step:
		return answer{done: m.put(u)}
	case u.left > 0:
		return answer{err: api.ErrBusy}
	case a.thread == taker:
		u.left = 2
	case len(m.v)-1 == most:
		return answer{err: api.ErrLong}
	default:
		u.left, u.node = 3, len(m.v)
		m.v, m.next = append(m.v, a.v), append(m.next, 0)
	}
	return answer{}
}

func (m *tale) put(u *turn) mpsc.Done {
	u.left--
	switch u.left {
	case 2:
		m.next[u.node] = 0
	case 1:
		u.read = m.head
		m.head = u.node
	case 0:
		m.next[u.read] = u.node
		return wasPut(m.v[u.node])
	}
	return mpsc.Done{}
}

func (m *tale) take(u *turn) mpsc.Done {
	u.left--
	if u.left == 1 {
		u.read = m.next[m.tail]
		return mpsc.Done{}
	}
	if u.read > 0 {
		m.tail = u.read
		return cameTo(m.v[u.read], api.OK)
	}
	if m.head == m.tail {
		return cameTo(0, api.ErrEmpty)
	}
	return cameTo(0, api.ErrBusy)
}

// ledger is a plain list to which each operation happens at once, at the access that the promise names; it knows of no nodes.
type ledger struct {
	list  []int64 // what was put and not taken
	turns [threads]struct {
		at int // how many accesses it has had
		v  int64
	}
}

func (l *ledger) putting() bool {
	for _, u := range l.turns[1:] {
		if u.at >= 0 {
			return true
		}
	}
	return false
}

func ledgerOf() *ledger {
	l := &ledger{}
	for thread := range l.turns {
		l.turns[thread].at = -1 // nothing is under way
	}
	return l
}

// hears is told of a call that was OK, and says what is wrong with what it came to.
func (l *ledger) hears(a act, x mpsc.Done) string {
	u := &l.turns[a.thread]
	if !a.step {
		u.at, u.v = 0, a.v
		return ""
	}
	u.at++
	wrong := l.putSteps(u.at, u.v, x)
	if a.thread == taker {
		wrong = l.takeSteps(u.at, x)
	}
	if x.Over {
		u.at = -1
	}
	return wrong
}

func (l *ledger) putSteps(at int, v int64, x mpsc.Done) string {
	switch {
	case at < 3 && x != mpsc.Done{}:
		return "a Put tells something ahead of its end"
	case at == 3 && x != wasPut(v):
		return "a Put isn't over at its last access"
	case at == 2:
		l.list = append(slices.Clip(l.list), v)
	}
	return ""
}

func (l *ledger) takeSteps(at int, x mpsc.Done) string {
	switch {
	case at == 1 && x != mpsc.Done{}:
		return "a Take tells something ahead of its end"
	case at == 1:
	case x == cameTo(0, api.ErrEmpty):
		if len(l.list) > 0 {
			return "a Take finds nothing though there is one"
		}
	case x == cameTo(0, api.ErrBusy):
		if len(l.list) == 0 {
			return "a Take is put off though there is none"
		}
	case len(l.list) == 0 || x != cameTo(l.list[0], api.OK):
		return "a Take doesn't hand out the first one"
	default:
		l.list = l.list[1:]
	}
	return ""
}

// rig is a queue, held against its tale and its ledger at each call.
type rig struct {
	q *mpsc.Queue
	m *tale
	l *ledger
}

func rigOf() *rig { return &rig{mpsc.New(), taleOf(), ledgerOf()} }

// does holds one call against the tale and the ledger, and then all that can be asked. (It and what calls it often leave t.Helper out, which would take most of the time.)
func (g *rig) does(t *testing.T, a act) answer {
	got, want := did(g.q, a), g.m.does(a)
	if got != want {
		t.Fatalf("%v answers %v, not %v", a, got, want)
	}
	if got.err == api.OK {
		if wrong := g.l.hears(a, got.done); wrong != "" {
			t.Fatalf("%v answers %v, but %s: %v", a, got, wrong, g.l.list)
		}
	}
	g.holds(t, a)
	return got
}

func (g *rig) holds(t *testing.T, a act) {
	for thread := -1; thread <= threads; thread++ {
		if got := g.q.Busy(thread); got != g.m.busy(thread) {
			t.Fatalf("behind %v: Busy(%d): %v", a, thread, got)
		}
	}
	got := items(g.q)
	if want := g.m.items(); !slices.Equal(got, want) {
		t.Fatalf("behind %v: items %v, not %v", a, got, want)
	}
	if n := len(got); n > len(g.l.list) || !slices.Equal(got, g.l.list[:n]) || n < len(g.l.list) && !g.l.putting() {
		t.Fatalf("behind %v: items %v, but what was put and not taken is %v", a, got, g.l.list)
	}
}

func (g *rig) begin(t *testing.T, thread int, v int64) {
	if x := g.does(t, act{thread: thread, v: v}); x != (answer{}) {
		t.Fatalf("Begin(%d, %d): %v", thread, v, x)
	}
}

// step does n steps of a thread, and tells what the last one came to.
func (g *rig) step(t *testing.T, thread, n int) mpsc.Done {
	var x answer
	for range n {
		if x = g.does(t, act{step: true, thread: thread}); x.err != api.OK {
			t.Fatalf("Step(%d): %v", thread, x)
		}
	}
	return x.done
}

// put and take do an operation without anybody between.
func (g *rig) put(t *testing.T, thread int, v int64) {
	g.begin(t, thread, v)
	if x := g.step(t, thread, 3); x != wasPut(v) {
		t.Fatalf("a Put of %d by %d: %v", v, thread, x)
	}
}

func (g *rig) take(t *testing.T) mpsc.Done {
	g.begin(t, taker, 0)
	return g.step(t, taker, 2)
}

// ends lets all threads end what they have under way, and tells what was taken by that.
func (g *rig) ends(t *testing.T) []int64 {
	var list []int64
	for thread := range threads {
		for g.q.Busy(thread) {
			if x := g.step(t, thread, 1); x.Take && x.Err == api.OK {
				list = append(list, x.V)
			}
		}
	}
	return list
}

// takesAll ends what is under way and then takes all that there is.
func (g *rig) takesAll(t *testing.T) []int64 {
	list := g.ends(t)
	for {
		x := g.take(t)
		if x == cameTo(0, api.ErrEmpty) {
			return list
		}
		if x.Err != api.OK {
			t.Fatalf("nothing is under way, but a Take comes to %v", x)
		}
		list = append(list, x.V)
	}
}

// filled has these put, by putter after putter.
func filled(t *testing.T, list ...int64) *rig {
	g := rigOf()
	for i, v := range list {
		g.put(t, 1+i%7, v)
	}
	return g
}

// play is a rig in which each putter puts numbers of its own that rise by one.
type play struct {
	*rig
	begun [threads]int64 // how many Puts of each putter
	out   []int64
}

func (p *play) begins(t *testing.T, thread int) {
	p.begin(t, thread, int64(thread)<<32+p.begun[thread])
	if thread != taker {
		p.begun[thread]++
	}
}

// next is a thread's next step; if it has nothing under way, it begins ahead of that.
func (p *play) next(t *testing.T, thread int) mpsc.Done {
	if !p.q.Busy(thread) {
		p.begins(t, thread)
	}
	x := p.step(t, thread, 1)
	if x.Take && x.Err == api.OK {
		p.out = append(p.out, x.V)
	}
	return x
}

// inOrder ends the play, and tells whether all that each putter put came out, once, in its order.
func (p *play) inOrder(t *testing.T) {
	p.out = append(p.out, p.takesAll(t)...)
	var came [threads]int64
	for _, v := range p.out {
		if v < 0 {
			continue // what was there at first
		}
		thread := v >> 32
		if v != thread<<32+came[thread] {
			t.Fatalf("of the putter %d %d came out, not %d", thread, v-thread<<32, came[thread])
		}
		came[thread]++
	}
	if came != p.begun {
		t.Fatalf("put: %v, came out: %v", p.begun, came)
	}
}

// farThreads are none.
func farThreads() []int {
	return []int{-1, -2, 8, 9, 15, 16, 64, 256, 257, math.MinInt, math.MinInt32, math.MaxInt32, math.MaxInt, 1 << 32, 1<<32 + 1, -1 << 32}
}

// refused does all that answers an error just now.
func (g *rig) refused(t *testing.T) {
	t.Helper()
	for _, thread := range farThreads() {
		for _, a := range []act{{thread: thread, v: 5}, {step: true, thread: thread}} {
			if x := g.does(t, a); x != (answer{err: api.ErrArg}) {
				t.Fatalf("%v: %v", a, x)
			}
		}
		if g.q.Busy(thread) {
			t.Fatalf("Busy(%d)", thread)
		}
	}
	for thread := range threads {
		a, want := act{step: true, thread: thread}, api.ErrState
		if g.q.Busy(thread) {
			a, want = act{thread: thread, v: 999}, api.ErrBusy
		}
		if x := g.does(t, a); x != (answer{err: want}) {
			t.Fatalf("%v: %v", a, x)
		}
	}
}

// chance is the same at each run of the tests.
func chance(seed int) *rand.Rand { return rand.New(rand.NewPCG(10, uint64(seed))) }
