package word

import (
	"testing"

	"callboy/api"
)

// What is over leaves nothing in its thread.
func TestNothingIsKept(t *testing.T) { // P11.1
	w := New()
	for k := range 60 {
		for thread := range api.MaxThreads {
			w.Begin(thread, []int{start, wake, wake, wake, wake, wake, wake, wake}[thread])
		}
		w.Begin(holder, []int{sleep, yield}[k/2%2]) // refused while it starts
		for n := range 6 * api.MaxThreads {
			w.Step((n + k) % api.MaxThreads)
		}
		for thread, next := range w.next {
			if next != nil || w.Busy(thread) {
				t.Fatalf("round %d, thread %d", k, thread)
			}
		}
	}
}

// Who holds finds the word Running or Awake, since only the holder writes anything else meanwhile; the chapter says what would come of the others.
func TestHoldersOperationsOfAnyWord(t *testing.T) { // P11.1
	for _, x := range []struct {
		op, now    int
		first, end int // what the first access and the last one come to
		becomes    int
		holds      bool
	}{
		{sleep, idle, notOver, gone, idle, true},
		{sleep, queued, notOver, gone, queued, true},
		{sleep, running, ok, ok, idle, false},
		{sleep, awake, notOver, again, running, true},
		{sleep, dead, notOver, gone, dead, true},
		{yield, idle, gone, gone, idle, false},
		{yield, queued, gone, gone, queued, false},
		{yield, running, push, push, queued, false},
		{yield, awake, push, push, queued, false},
		{yield, dead, gone, gone, dead, false},
		{die, idle, ok, ok, dead, false},
		{die, queued, ok, ok, dead, false},
		{die, running, ok, ok, dead, false},
		{die, awake, ok, ok, dead, false},
		{die, dead, ok, ok, dead, false},
	} {
		w := &Word{now: x.now, holds: true}
		w.Begin(holder, x.op)
		first, _ := w.Step(holder)
		end := first
		if first == notOver {
			end, _ = w.Step(holder)
		}
		if first != x.first || end != x.end || w.Now() != x.becomes || w.Holds() != x.holds || w.Busy(holder) {
			t.Errorf("%d of %d: %d, %d, then %d, %v, %v", x.op, x.now, first, end, w.Now(), w.Holds(), w.Busy(holder))
		}
	}
}

func TestStartOfAnyWord(t *testing.T) { // P11.1
	for now := idle; now <= dead; now++ {
		w := &Word{now: now}
		w.Begin(holder, start)
		came, err := w.Step(holder)
		if now == queued && (came != ok || w.Now() != running || !w.Holds()) {
			t.Error("of Queued:", came, w.Now(), w.Holds())
		}
		if now != queued && (came != gone || w.Now() != now || w.Holds()) {
			t.Errorf("of %d: %d, %d, %v", now, came, w.Now(), w.Holds())
		}
		if err != api.OK || w.Busy(holder) {
			t.Error(now, err, w.Busy(holder))
		}
	}
}
