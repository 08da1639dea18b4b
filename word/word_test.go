package word_test

import (
	"fmt"
	"math"
	"testing"

	"callboy/api"
	"callboy/word"
)

func TestExample(t *testing.T) { // P11.1
	w := word.New()
	if w.Now() != 1 || w.Holds() {
		t.Fatal("at first:", w.Now(), w.Holds())
	}
	for i, x := range []struct {
		thread, op int
		came       []int
		now        int
		holds      bool
	}{
		{0, 1, []int{0}, 2, true},
		{1, 0, []int{-1, 0}, 3, true},
		{0, 2, []int{-1, 2}, 2, true},
		{0, 2, []int{0}, 0, false},
		{1, 0, []int{-1, 1}, 1, false},
	} {
		if err := w.Begin(x.thread, x.op); err != api.OK || !w.Busy(x.thread) {
			t.Error(i, "Begin:", err)
		}
		for n, want := range x.came {
			if came, err := w.Step(x.thread); came != want || err != api.OK {
				t.Errorf("%d, access %d: %d, %d", i, n+1, came, err)
			}
		}
		if w.Busy(x.thread) || w.Now() != x.now || w.Holds() != x.holds {
			t.Error(i, "then:", w.Busy(x.thread), w.Now(), w.Holds())
		}
	}
}

// Each operation that may be, of each word, whole.
func TestWhole(t *testing.T) { // P11.1
	for _, x := range []struct {
		now, thread, op int
		came            []int
		becomes         int
		holds           bool
	}{
		{idle, 1, wake, []int{notOver, push}, queued, false},
		{queued, 2, wake, []int{ok}, queued, false},
		{running, 4, wake, []int{notOver, ok}, awake, true},
		{awake, 5, wake, []int{ok}, awake, true},
		{dead, 7, wake, []int{ok}, dead, false},
		{idle, 0, start, []int{gone}, idle, false},
		{queued, 0, start, []int{ok}, running, true},
		{dead, 0, start, []int{gone}, dead, false},
		{running, 0, sleep, []int{ok}, idle, false},
		{awake, 0, sleep, []int{notOver, again}, running, true},
		{running, 0, yield, []int{push}, queued, false},
		{awake, 0, yield, []int{push}, queued, false},
		{running, 0, die, []int{ok}, dead, false},
		{awake, 0, die, []int{ok}, dead, false},
	} {
		g := who(t, x.now)
		g.whole(t, x.thread, x.op, x.came...)
		if g.w.Busy(x.thread) || g.w.Now() != x.becomes || g.w.Holds() != x.holds {
			t.Errorf("%d by %d of %d: %v, %d, %v", x.op, x.thread, x.now, g.w.Busy(x.thread), g.w.Now(), g.w.Holds())
		}
	}
}

// Each waker does as each other one.
func TestEachWaker(t *testing.T) { // P11.1
	for thread := 1; thread < threads; thread++ {
		g := who(t, idle)
		g.whole(t, thread, wake, notOver, push)
		g.whole(t, thread, wake, ok)
		g.whole(t, holder, start, ok)
		g.whole(t, thread, wake, notOver, ok)
		g.whole(t, thread, wake, ok)
		g.whole(t, holder, die, ok)
		g.whole(t, thread, wake, ok)
		g.is(t, dead)
	}
}

// doing is an operation, whole, and what its accesses come to.
type doing struct {
	thread, op int
	came       []int
}

func (g *rig) all(t *testing.T, list []doing) {
	t.Helper()
	for _, x := range list {
		g.whole(t, x.thread, x.op, x.came...)
	}
}

// A Wake has read a word; then others do this and that; then it goes on.
func TestWakeOverOthers(t *testing.T) { // P11.1, P11.2, P11.3
	starts, sleeps, yields, dies := doing{holder, start, []int{ok}}, doing{holder, sleep, []int{ok}}, doing{holder, yield, []int{push}}, doing{holder, die, []int{ok}}
	pushes, wakes, goesOn := doing{5, wake, []int{notOver, push}}, doing{5, wake, []int{notOver, ok}}, doing{holder, sleep, []int{notOver, again}}
	for _, x := range []struct {
		read    int
		between []doing
		came    []int
		becomes int
	}{
		{idle, nil, []int{push}, queued},
		{idle, []doing{pushes}, []int{notOver, ok}, queued},
		{idle, []doing{pushes, starts}, []int{notOver, notOver, ok}, awake},
		{idle, []doing{pushes, starts, wakes}, []int{notOver, ok}, awake},
		{idle, []doing{pushes, starts, dies}, []int{notOver, ok}, dead},
		{idle, []doing{pushes, starts, yields}, []int{notOver, ok}, queued},
		{idle, []doing{pushes, starts, sleeps}, []int{push}, queued}, // the same as it was: the change doesn't see the difference
		{idle, []doing{pushes, starts, sleeps, pushes}, []int{notOver, ok}, queued},
		{running, nil, []int{ok}, awake},
		{running, []doing{wakes}, []int{notOver, ok}, awake},
		{running, []doing{sleeps}, []int{notOver, notOver, push}, queued},
		{running, []doing{yields}, []int{notOver, ok}, queued},
		{running, []doing{dies}, []int{notOver, ok}, dead},
		{running, []doing{yields, starts}, []int{ok}, awake},
		{running, []doing{wakes, goesOn}, []int{ok}, awake},
		{running, []doing{wakes, yields}, []int{notOver, ok}, queued},
		{running, []doing{wakes, dies}, []int{notOver, ok}, dead},
		{running, []doing{wakes, goesOn, sleeps}, []int{notOver, notOver, push}, queued},
		{running, []doing{sleeps, pushes}, []int{notOver, ok}, queued},
		{running, []doing{sleeps, pushes, starts}, []int{ok}, awake},
		{running, []doing{sleeps, pushes, starts, dies}, []int{notOver, ok}, dead},
	} {
		t.Run(fmt.Sprint(x.read, x.between), func(t *testing.T) {
			g := who(t, x.read)
			g.whole(t, 2, wake, notOver)
			g.all(t, x.between)
			g.steps(t, 2, x.came...)
			g.is(t, x.becomes)
			if g.w.Busy(2) {
				t.Error("it is busy")
			}
		})
	}
}

// A Wake that has begun has read nothing yet.
func TestWakeReadsAtItsFirstAccess(t *testing.T) { // P11.1
	g := rigOf()
	g.begin(t, 1, wake)
	g.whole(t, holder, start, ok)
	g.whole(t, holder, sleep, ok)
	g.begin(t, 2, wake)
	g.steps(t, 1, notOver, push)
	g.steps(t, 2, ok)
	g.begin(t, 7, wake)
	g.whole(t, holder, start, ok)
	g.begin(t, 6, wake)
	g.steps(t, 7, notOver, ok)
	g.steps(t, 6, ok)
	g.is(t, awake)
}

// Whoever is always too late begins anew as often as it takes.
func TestWakeAsOftenAsItTakes(t *testing.T) { // P11.1
	for rounds := range 200 {
		g := who(t, idle)
		g.begin(t, 4, wake)
		for range rounds {
			g.steps(t, 4, notOver) // reads Idle
			g.whole(t, 1, wake, notOver, push)
			g.steps(t, 4, notOver) // is too late
			g.whole(t, holder, start, ok)
			g.steps(t, 4, notOver) // reads Running
			g.whole(t, holder, sleep, ok)
			g.steps(t, 4, notOver) // is too late again
		}
		g.steps(t, 4, notOver, push)
		g.is(t, queued)
		if g.w.Busy(4) {
			t.Error("it is busy behind", rounds)
		}
	}
}

// A Sleep that has found the word Awake goes on, whatever wakers do between its accesses.
func TestSleepHalfDone(t *testing.T) { // P11.1, P11.3
	for half := range 3 {
		for wholes := range 4 {
			g := who(t, running)
			g.begin(t, 1, wake)
			if half > 0 {
				g.steps(t, 1, notOver) // has read Running
			}
			g.whole(t, 2, wake, notOver, ok)
			g.whole(t, holder, sleep, notOver)
			for range wholes {
				g.whole(t, 3, wake, ok)
			}
			if half == 2 {
				g.steps(t, 1, notOver) // was too late
			}
			g.is(t, awake)
			g.steps(t, holder, again)
			g.is(t, running)
			if half == 1 {
				g.steps(t, 1, ok) // the word is again what it has read
			} else {
				g.steps(t, 1, notOver, ok)
			}
			g.whole(t, holder, sleep, notOver, again)
			g.whole(t, holder, sleep, ok)
			g.is(t, idle)
		}
	}
}

// One Sleep goes on for all the Wakes ahead of it.
func TestManyWakesOneAgain(t *testing.T) { // P11.3
	for wakers := 1; wakers <= 7; wakers++ {
		g := who(t, running)
		g.whole(t, 1, wake, notOver, ok)
		for thread := 2; thread <= wakers; thread++ {
			g.whole(t, thread, wake, ok)
		}
		g.whole(t, holder, sleep, notOver, again)
		g.whole(t, holder, sleep, ok)
		g.whole(t, wakers, wake, notOver, push)
	}
}

// A Wake is over at each place of what the holder does between a Start and a Sleep.
func TestWakeKeepsFromSleeping(t *testing.T) { // P11.3
	for _, x := range []struct{ begun, read, changed int }{{0, 1, 1}, {0, 1, 2}, {0, 2, 2}, {1, 1, 1}, {1, 1, 2}, {1, 2, 2}, {2, 2, 2}} {
		g := rigOf()
		wakes := func(place int) {
			if x.begun == place {
				g.begin(t, 6, wake)
			}
			if x.read == place {
				g.steps(t, 6, notOver)
			}
			if x.changed == place {
				g.steps(t, 6, ok)
			}
		}
		wakes(0)
		g.whole(t, holder, start, ok)
		wakes(1)
		g.begin(t, holder, sleep)
		wakes(2)
		g.steps(t, holder, notOver, again)
		g.whole(t, holder, sleep, ok)
	}
}

// A Yield does with the word at once what a Wake ahead of it asked for, and leaves nothing of that.
func TestYieldOfAwake(t *testing.T) { // P11.1, P11.2
	g := who(t, awake)
	g.whole(t, holder, yield, push)
	g.is(t, queued)
	g.whole(t, holder, start, ok)
	g.is(t, running)
	g.whole(t, holder, sleep, ok)
	g.is(t, idle)
}

// Once it is dead, nothing changes that, and nobody is pushed.
func TestDead(t *testing.T) { // P11.1, P11.3
	for _, now := range []int{running, awake} {
		g := who(t, now)
		g.whole(t, holder, die, ok)
		for thread := 1; thread < threads; thread++ {
			g.whole(t, thread, wake, ok)
			g.whole(t, holder, start, gone)
			for op := sleep; op <= die; op++ {
				g.fails(t, act{thread: holder, op: op}, api.ErrState)
			}
			g.is(t, dead)
		}
	}
}

// What has begun isn't done: the holder holds till the access that ends it.
func TestHoldsBetween(t *testing.T) { // P11.1
	for _, x := range []struct {
		now, op int
		came    []int
		after   bool
	}{
		{queued, start, []int{ok}, true}, {idle, start, []int{gone}, false}, {dead, start, []int{gone}, false},
		{running, sleep, []int{ok}, false}, {awake, sleep, []int{notOver, again}, true},
		{running, yield, []int{push}, false}, {awake, yield, []int{push}, false},
		{running, die, []int{ok}, false}, {awake, die, []int{ok}, false},
	} {
		g := who(t, x.now)
		before := x.op != start
		for range 2 {
			if g.w.Holds() != before || g.w.Now() != x.now || g.w.Busy(holder) {
				t.Errorf("%d of %d, ahead: %v, %d, %v", x.op, x.now, g.w.Holds(), g.w.Now(), g.w.Busy(holder))
			}
		}
		g.begin(t, holder, x.op)
		for _, came := range x.came {
			if g.w.Holds() != before || g.w.Now() != x.now || !g.w.Busy(holder) {
				t.Errorf("%d of %d, meanwhile: %v, %d, %v", x.op, x.now, g.w.Holds(), g.w.Now(), g.w.Busy(holder))
			}
			g.steps(t, holder, came)
		}
		if g.w.Holds() != x.after || g.w.Busy(holder) {
			t.Errorf("%d of %d, then: %v, %v", x.op, x.now, g.w.Holds(), g.w.Busy(holder))
		}
	}
}

// Behind each access of each operation, all that may not be is asked, and nothing changes.
func TestWrongCalls(t *testing.T) { // P11.1
	for now := idle; now <= dead; now++ {
		for op := start; op <= die; op++ {
			for half := range 3 {
				g := who(t, now)
				g.refused(t)
				g.begin(t, 1, wake)
				for n := 0; n < half && g.w.Busy(1); n++ {
					g.step(t, 1)
				}
				if g.w.Holds() == (op != start) {
					g.begin(t, holder, op)
				}
				for n := 0; g.w.Busy(holder) || n == 0; n++ {
					g.refused(t)
					if g.w.Busy(holder) {
						g.step(t, holder)
					}
				}
				for g.w.Busy(1) {
					g.refused(t)
					g.step(t, 1)
				}
				g.refused(t)
			}
		}
	}
}

// Of several errors the first one in the chapter's order is answered.
func TestOrderOfErrors(t *testing.T) { // R1
	g := rigOf()
	g.fails(t, act{thread: holder, op: die}, api.ErrState)
	g.begin(t, holder, start)
	g.fails(t, act{thread: holder, op: die}, api.ErrBusy)
	g.fails(t, act{thread: holder, op: wake}, api.ErrArg)
	g.steps(t, holder, ok)
	g.fails(t, act{thread: holder, op: start}, api.ErrState)
	g.begin(t, holder, sleep)
	g.fails(t, act{thread: holder, op: start}, api.ErrBusy)
	g.fails(t, act{thread: holder, op: 5}, api.ErrArg)
	g.begin(t, 3, wake)
	g.fails(t, act{thread: 3, op: wake}, api.ErrBusy)
	g.fails(t, act{thread: 3, op: sleep}, api.ErrArg)
}

// A Begin of one that is busy doesn't change what it has under way.
func TestBusyKeepsWhatItHas(t *testing.T) { // R3
	g := who(t, idle)
	g.whole(t, 5, wake, notOver)
	g.fails(t, act{thread: 5, op: wake}, api.ErrBusy)
	g.steps(t, 5, push)
	g = who(t, awake)
	g.whole(t, holder, sleep, notOver)
	for op := start; op <= die; op++ {
		g.fails(t, act{thread: holder, op: op}, api.ErrBusy)
	}
	g.steps(t, holder, again)
	g.is(t, running)
}

func TestNil(t *testing.T) { // R7
	var w *word.Word
	for _, thread := range append(farNumbers(), 0, 1, 2, 3, 4, 5, 6, 7) {
		for _, op := range []int{wake, start, sleep, yield, die, -1, 5, math.MinInt} {
			if err := w.Begin(thread, op); err != api.ErrArg {
				t.Errorf("Begin(%d, %d): %d", thread, op, err)
			}
		}
		if came, err := w.Step(thread); came != 0 || err != api.ErrArg {
			t.Errorf("Step(%d): %d, %d", thread, came, err)
		}
		if w.Busy(thread) {
			t.Errorf("Busy(%d)", thread)
		}
	}
	if w.Now() != 0 || w.Holds() {
		t.Error(w.Now(), w.Holds())
	}
}

// One that New didn't make was never queued: it sleeps, and none of its calls panics.
func TestNotMade(t *testing.T) { // W0
	g := &rig{&word.Word{}, &tale{}, &ledger{}}
	g.refused(t)
	g.whole(t, holder, start, gone)
	g.whole(t, 1, wake, notOver, push)
	g.whole(t, holder, start, ok)
	g.refused(t)
}

// To ask changes nothing, and what one word is given no other one knows of.
func TestEachForItself(t *testing.T) { // R6
	a, b := rigOf(), rigOf()
	ca, cb := chance(1), chance(2)
	for range 6000 {
		a.does(t, anyAct(ca, a, 3))
		b.does(t, anyAct(cb, b, 7))
		for range 3 {
			a.holds(t, act{})
		}
	}
	if a.l.starts < 20 || b.l.starts < 20 {
		t.Error("hardly anything was done", a.l.starts, b.l.starts)
	}
}
