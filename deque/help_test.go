package deque_test

import (
	"math"
	"math/rand/v2"
	"slices"
	"testing"

	"callboy/api"
	"callboy/deque"
)

// The operations.
const (
	push = iota
	pop
	steal
)

// act is one call: a Begin, or a Step, which has neither op nor v.
type act struct {
	step       bool
	thread, op int
	v          int64
}

// answer is what a call answers; done is nothing of a Begin.
type answer struct {
	done deque.Done
	err  api.Errno
}

func over(op int, v int64, err api.Errno) answer {
	return answer{done: deque.Done{Over: true, Op: op, V: v, Err: err}}
}

func does(d *deque.Deque, a act) answer {
	if a.step {
		done, err := d.Step(a.thread)
		return answer{done, err}
	}
	return answer{err: d.Begin(a.thread, a.op, a.v)}
}

// turn is an operation under way: at is how many accesses it has had.
type turn struct {
	busy       bool
	op, at     int
	v          int64
	top, below int
	won        bool
}

// tale is a deque told in the plainest way: the op and how many accesses it has had say what comes next.
type tale struct {
	size, top, bottom int
	places            [64]int64
	turns             [api.MaxThreads]turn
}

func taleOf(size int) *tale { return &tale{size: size} }

func (m *tale) busy(thread int) bool {
	return thread >= 0 && thread <= 7 && m.turns[thread].busy
}

func (m *tale) items() []int64 {
	var list []int64
	for n := m.top; n < m.bottom; n++ {
		list = append(list, m.places[n%m.size])
	}
	return list
}

func (m *tale) does(a act) answer {
	if a.thread < 0 || a.thread > 7 {
		return answer{err: api.ErrArg}
	}
	u := &m.turns[a.thread]
	if a.step {
		if !u.busy {
			return answer{err: api.ErrState}
		}
		u.at++
		x := [3]func(u *turn) answer{m.push, m.pop, m.steal}[u.op](u)
		if x.done.Over {
			*u = turn{}
		}
		return x
	}
	if owners := a.op == push || a.op == pop; a.thread == 0 && !owners || a.thread > 0 && a.op != steal {
		return answer{err: api.ErrArg}
	}
	if u.busy {
		return answer{err: api.ErrBusy}
	}
	*u = turn{busy: true, op: a.op, v: a.v}
	return answer{}
}

func (m *tale) push(u *turn) answer {
	switch u.at {
	case 1:
		u.below = m.bottom
	case 2:
		if u.below-m.top >= m.size {
			return over(push, u.v, api.ErrFull)
		}
	case 3:
		m.places[u.below%m.size] = u.v
	case 4:
		m.bottom = u.below + 1
		return over(push, u.v, api.OK)
	}
	return answer{}
}

func (m *tale) pop(u *turn) answer {
	switch {
	case u.at == 1:
		u.below = m.bottom - 1
	case u.at == 2:
		m.bottom = u.below
	case u.at == 3:
		u.top = m.top
	case u.at == 4 && u.top > u.below:
		m.bottom = u.below + 1
		return over(pop, 0, api.ErrEmpty)
	case u.at == 4:
		u.v = m.places[u.below%m.size]
		if u.top < u.below {
			return over(pop, u.v, api.OK)
		}
	case u.at == 5:
		if u.won = m.top == u.top; u.won {
			m.top = u.top + 1
		}
	case u.at == 6:
		m.bottom = u.below + 1
		if u.won {
			return over(pop, u.v, api.OK)
		}
		return over(pop, 0, api.ErrEmpty)
	}
	return answer{}
}

func (m *tale) steal(u *turn) answer {
	switch u.at {
	case 1:
		u.top = m.top
	case 2:
		if u.top >= m.bottom {
			return over(steal, 0, api.ErrEmpty)
		}
	case 3:
		u.v = m.places[u.top%m.size]
	case 4:
		if m.top != u.top {
			return over(steal, 0, api.ErrTaken)
		}
		m.top = u.top + 1
		return over(steal, u.v, api.OK)
	}
	return answer{}
}

// ledger is a plain list to which each operation happens at once, at the access that the promise names; it knows nothing of top, bottom and places.
type ledger struct {
	size  int
	list  []int64
	gone  int // how many went out in front
	owner struct {
		op, at int
		v      int64
		one    bool // a Pop found just one
		found  bool // a Pop has its thing
	}
	thieves [api.MaxThreads]struct{ at, gone int }
}

// begins is told of a Begin that was OK.
func (l *ledger) begins(a act) {
	if a.thread > 0 {
		l.thieves[a.thread].at = 0
		return
	}
	l.owner.op, l.owner.at, l.owner.v = a.op, 0, a.v
	l.owner.one, l.owner.found = false, false
}

// steps is told of a Step that was OK, and says what is wrong with what it came to.
func (l *ledger) steps(thread int, x deque.Done) string {
	switch {
	case thread > 0:
		return l.stealSteps(thread, x)
	case l.owner.op == push:
		return l.pushSteps(x)
	}
	return l.popSteps(x)
}

func (l *ledger) pushSteps(x deque.Done) string {
	o := &l.owner
	o.at++
	full := o.at == 2 && len(l.list) == l.size
	switch {
	case full && x != (deque.Done{Over: true, Op: push, V: o.v, Err: api.ErrFull}):
		return "a Push isn't refused though there are size"
	case !full && x.Err == api.ErrFull:
		return "a Push is refused though there are less than size"
	case o.at == 4:
		l.list = append(slices.Clone(l.list), o.v)
		if x != (deque.Done{Over: true, Op: push, V: o.v}) {
			return "a Push isn't over at its last access"
		}
	case !full && x != deque.Done{}:
		return "a Push tells something ahead of its end"
	}
	return ""
}

func (l *ledger) popSteps(x deque.Done) string {
	o := &l.owner
	o.at++
	if o.at == 3 {
		o.one = len(l.list) == 1
	}
	// It is for the one thing that thieves may run too.
	if n := len(l.list) - 1; n >= 0 && (o.at == 3 && n > 0 || o.at == 5 && o.one) {
		o.v, o.found = l.list[n], true
		l.list = l.list[:n]
		if n == 0 {
			l.gone++
		}
	}
	want := deque.Done{}
	switch {
	case (o.at == 4 && !o.one || o.at == 6) && o.found:
		want = deque.Done{Over: true, Op: pop, V: o.v}
	case o.at == 4 && !o.one || o.at == 6:
		want = deque.Done{Over: true, Op: pop, Err: api.ErrEmpty}
	}
	if x != want {
		return "a Pop isn't what it is on a plain list"
	}
	return ""
}

func (l *ledger) stealSteps(thread int, x deque.Done) string {
	u := &l.thieves[thread]
	u.at++
	if u.at == 1 {
		u.gone = l.gone
	}
	empty, taken := deque.Done{Over: true, Op: steal, Err: api.ErrEmpty}, deque.Done{Over: true, Op: steal, Err: api.ErrTaken}
	switch {
	case u.at == 2 && x == empty:
		if len(l.list) > 1 {
			return "a Steal finds nothing though there is more than the owner's one"
		}
	case u.at == 4 && x == taken:
		if u.gone == l.gone {
			return "a Steal came too late though nobody took anything"
		}
	case u.at == 4:
		if len(l.list) == 0 || x != (deque.Done{Over: true, Op: steal, V: l.list[0]}) {
			return "a Steal didn't take the first one"
		}
		l.list = l.list[1:]
		l.gone++
	case x != deque.Done{}:
		return "a Steal tells something ahead of its end"
	}
	return ""
}

// rig is a deque, held against its tale and its ledger at each call.
type rig struct {
	d *deque.Deque
	m *tale
	l *ledger
}

func rigOf(size int) *rig {
	return &rig{deque.New(size), taleOf(size), &ledger{size: size}}
}

// holds asks all that can be asked of a deque. (It and what calls it often leave t.Helper out, which would take most of the time.)
func (g *rig) holds(t *testing.T, name string, a act) {
	if g.d.Top() != g.m.top || g.d.Bottom() != g.m.bottom || g.d.Size() != g.m.size {
		t.Fatalf("%s, behind %v: top %d, bottom %d, size %d, not %d, %d, %d", name, a, g.d.Top(), g.d.Bottom(), g.d.Size(), g.m.top, g.m.bottom, g.m.size)
	}
	if got, want := g.d.Items(), g.m.items(); !slices.Equal(got, want) {
		t.Fatalf("%s, behind %v: items %v, not %v", name, a, got, want)
	}
	for thread := -1; thread <= api.MaxThreads; thread++ {
		if got := g.d.Busy(thread); got != g.m.busy(thread) {
			t.Fatalf("%s, behind %v: Busy(%d): %v", name, a, thread, got)
		}
	}
	// What the owner has under way alone can keep the list from standing there whole.
	if !g.d.Busy(0) && !slices.Equal(g.d.Items(), g.l.list) {
		t.Fatalf("%s, behind %v: items %v, but what was pushed and didn't come out is %v", name, a, g.d.Items(), g.l.list)
	}
}

func (g *rig) does(t *testing.T, name string, a act) answer {
	got, want := does(g.d, a), g.m.does(a)
	if got != want {
		t.Fatalf("%s: %v answers %v, not %v", name, a, got, want)
	}
	switch {
	case got.err != api.OK:
	case !a.step:
		g.l.begins(a)
	default:
		if wrong := g.l.steps(a.thread, got.done); wrong != "" {
			t.Fatalf("%s: %v answers %v, but %s: %v", name, a, got, wrong, g.l.list)
		}
	}
	g.holds(t, name, a)
	return got
}

// quietly does what was held against all once already, and looks at nothing.
func (g *rig) quietly(a act) deque.Done {
	x := does(g.d, a)
	g.m.does(a)
	if a.step {
		g.l.steps(a.thread, x.done)
	} else {
		g.l.begins(a)
	}
	return x.done
}

func (g *rig) quietlyWhole(thread, op int, v int64) {
	g.quietly(act{thread: thread, op: op, v: v})
	for n := 0; n < 6 && !g.quietly(act{step: true, thread: thread}).Over; n++ {
	}
}

func (g *rig) begin(t *testing.T, name string, thread, op int, v int64) {
	if x := g.does(t, name, act{thread: thread, op: op, v: v}); x != (answer{}) {
		t.Fatalf("%s: Begin(%d, %d, %d): %v", name, thread, op, v, x)
	}
}

// step does n steps of a thread, and tells what the last one came to.
func (g *rig) step(t *testing.T, name string, thread, n int) deque.Done {
	var x answer
	for range n {
		if x = g.does(t, name, act{step: true, thread: thread}); x.err != api.OK {
			t.Fatalf("%s: Step(%d): %v", name, thread, x)
		}
	}
	return x.done
}

// ends goes on with a thread till its operation is over, and tells how many steps that took.
func (g *rig) ends(t *testing.T, name string, thread int) (deque.Done, int) {
	t.Helper()
	for n := 1; ; n++ {
		if x := g.step(t, name, thread, 1); x.Over || n > 6 {
			return x, n
		}
	}
}

// whole does an operation without anybody between.
func (g *rig) whole(t *testing.T, name string, thread, op int, v int64) (deque.Done, int) {
	t.Helper()
	g.begin(t, name, thread, op, v)
	return g.ends(t, name, thread)
}

// filled has these pushed, whole, as far as there is room.
func filled(t *testing.T, name string, size int, list ...int64) *rig {
	t.Helper()
	return turned(t, name, size, 0, list...)
}

// turned is filled with these too, but so much was pushed and came out that top is at this number.
func turned(t *testing.T, name string, size, top int, list ...int64) *rig {
	t.Helper()
	g := rigOf(size)
	for n := range top {
		g.quietlyWhole(0, push, int64(-n))
		g.quietlyWhole(1+n%7, steal, 0)
	}
	for _, v := range list {
		g.quietlyWhole(0, push, v)
	}
	g.holds(t, name+", at first", act{})
	return g
}

// wrongActs are calls that answer an error, whatever is under way.
func wrongActs() []act {
	far := []int{-1, -2, 8, 9, 64, math.MinInt, math.MinInt32, math.MaxInt32, math.MaxInt, 1 << 32, -1 << 32}
	var list []act
	for _, thread := range far {
		list = append(list, act{step: true, thread: thread}, act{thread: thread, op: push, v: 1}, act{thread: thread, op: pop}, act{thread: thread, op: steal}, act{thread: thread, op: 3})
	}
	for _, op := range append(far, 3, 4, 1<<32+1, 1<<32+2) {
		for thread := range api.MaxThreads {
			list = append(list, act{thread: thread, op: op, v: 5})
		}
	}
	list = append(list, act{thread: 0, op: steal, v: 7})
	for thread := 1; thread < api.MaxThreads; thread++ {
		list = append(list, act{thread: thread, op: push, v: 7}, act{thread: thread, op: pop})
	}
	return list
}

// refused is what answers an error just now: Begin of those that are busy, Step of those that aren't.
func (g *rig) refused(t *testing.T, name string) {
	t.Helper()
	for thread := range api.MaxThreads {
		if !g.d.Busy(thread) {
			if x := g.does(t, name, act{step: true, thread: thread}); x != (answer{err: api.ErrState}) {
				t.Fatalf("%s: Step(%d): %v", name, thread, x)
			}
			continue
		}
		ops := []int{steal}
		if thread == 0 {
			ops = []int{push, pop}
		}
		for _, op := range ops {
			if x := g.does(t, name, act{thread: thread, op: op, v: 999}); x != (answer{err: api.ErrBusy}) {
				t.Fatalf("%s: Begin(%d, %d): %v", name, thread, op, x)
			}
		}
	}
}

// chance is the same at each run of the tests.
func chance(seed int) *rand.Rand { return rand.New(rand.NewPCG(9, uint64(seed))) }
