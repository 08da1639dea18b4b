package mpsc_test

import (
	"math/rand/v2"
	"slices"
	"testing"

	"callboy/api"
	"callboy/mpsc"
)

// anyAct is a call of the taker or of one of so many putters: mostly one that may be; the taker's as often as bias of theirs.
func anyAct(c *rand.Rand, g *rig, putters, bias int) act {
	thread := 1 + c.IntN(putters)
	if c.IntN(bias+1) == 0 {
		thread = taker
	}
	if c.IntN(20) == 0 {
		far := farThreads()
		thread = append(far, 0, 1, 2, 3, 4, 5, 6, 7)[c.IntN(len(far)+8)]
		return act{step: c.IntN(2) == 0, thread: thread, v: 999}
	}
	return act{step: g.q.Busy(thread), thread: thread, v: c.Int64() - c.Int64()}
}

func TestAnyCalls(t *testing.T) { // P10.1, P10.2
	for putters := 1; putters <= 7; putters++ {
		for bias := 1; bias <= 4; bias++ {
			c := chance(100*putters + bias)
			g := rigOf()
			for range 1500 {
				g.does(t, anyAct(c, g, putters, bias))
			}
			g.takesAll(t)
		}
	}
}

// habit is how one says who is next.
type habit struct {
	name string
	next func(c *rand.Rand, k, putters int) int
}

func habits() []habit {
	return []habit{
		{"anyone", func(c *rand.Rand, k, putters int) int { return c.IntN(putters + 1) }},
		{"the taker rather", func(c *rand.Rand, k, putters int) int { return c.IntN(putters+1) * c.IntN(2) }},
		{"in turn", func(c *rand.Rand, k, putters int) int { return k % (putters + 1) }},
		{"whole, mostly", func(c *rand.Rand, k, putters int) int { return k / 7 % (putters + 1) }},
		{"the last putter sleeps long", func(c *rand.Rand, k, putters int) int {
			if k%101 == 0 {
				return putters
			}
			return c.IntN(putters)
		}},
		{"the taker sleeps long", func(c *rand.Rand, k, putters int) int {
			if k%60 < 24 {
				return 1 + c.IntN(putters)
			}
			return taker
		}},
	}
}

// The taker and one to seven putters, long, in each habit.
func TestLongRows(t *testing.T) { // P10.1, P10.2, P10.3
	for seed, h := range habits() {
		count := map[api.Errno]int{}
		for putters := 1; putters <= 7; putters++ {
			c := chance(10*seed + putters)
			p := &play{rig: rigOf()}
			for k := range 2500 {
				if x := p.next(t, h.next(c, k, putters)); x.Take {
					count[x.Err]++
				}
			}
			p.inOrder(t)
		}
		if count[api.OK] < 1000 || count[api.ErrEmpty] == 0 || count[api.ErrBusy] == 0 {
			t.Errorf("%s: %v", h.name, count)
		}
	}
}

// ended steps so often, and tells what the last step came to.
func ended(q *mpsc.Queue, thread, steps int) mpsc.Done {
	var x mpsc.Done
	for range steps {
		x, _ = q.Step(thread)
	}
	return x
}

// putSome puts the numbers from first on, by putter after putter, whole.
func putSome(t *testing.T, q *mpsc.Queue, first, count int) {
	t.Helper()
	for n := first; n < first+count; n++ {
		thread := 1 + n%7
		if err := q.Begin(thread, int64(n)); err != api.OK {
			t.Fatalf("the Put of %d: %d", n, err)
		}
		if x := ended(q, thread, 3); x != wasPut(int64(n)) {
			t.Fatalf("the Put of %d: %v", n, x)
		}
	}
}

// takeSome takes the numbers from first on.
func takeSome(t *testing.T, q *mpsc.Queue, first, count int) {
	t.Helper()
	for n := first; n < first+count; n++ {
		if err := q.Begin(taker, 0); err != api.OK {
			t.Fatalf("the Take of %d: %d", n, err)
		}
		if x := ended(q, taker, 2); x != cameTo(int64(n), api.OK) {
			t.Fatalf("the Take of %d: %v", n, x)
		}
	}
}

// noMore tells whether each Put is one too many, and changes nothing.
func noMore(t *testing.T, q *mpsc.Queue) {
	t.Helper()
	there := items(q)
	for thread := 1; thread < threads; thread++ {
		busy, want := q.Busy(thread), api.ErrLong
		if busy {
			want = api.ErrBusy
		}
		for range 3 {
			if err := q.Begin(thread, 7); err != want {
				t.Errorf("Begin(%d) behind the last Put: %d", thread, err)
			}
		}
		if _, err := q.Step(thread); !busy && err != api.ErrState {
			t.Errorf("Step(%d) behind a Put that was refused: %d", thread, err)
		}
		if !busy && q.Busy(thread) {
			t.Errorf("%d is busy behind a Put that was refused", thread)
		}
	}
	if !slices.Equal(items(q), there) {
		t.Error("a Put that was refused changed what is there")
	}
	for _, thread := range []int{-1, 8} {
		if err := q.Begin(thread, 7); err != api.ErrArg {
			t.Errorf("Begin(%d) behind the last Put: %d", thread, err)
		}
	}
}

// The 65536th Put is the last one, though nothing was taken.
func TestMostPutsThatStay(t *testing.T) { // P10.1
	q := mpsc.New()
	putSome(t, q, 0, most)
	noMore(t, q)
	count := int64(0)
	for v := range q.Items() {
		if v != count {
			t.Fatalf("%d, not %d", v, count)
		}
		count++
	}
	if count != most {
		t.Error(count)
	}
	takeSome(t, q, 0, most)
	noMore(t, q)
	q.Begin(taker, 0)
	if x := ended(q, taker, 2); x != cameTo(0, api.ErrEmpty) {
		t.Error(x)
	}
}

// The 65536th Put is the last one, though all was taken; and Takes are none.
func TestMostPutsThatAreTaken(t *testing.T) { // P10.1
	q := mpsc.New()
	for n := 0; n < most; n += 16 {
		putSome(t, q, n, 16)
		takeSome(t, q, n, 16)
		q.Begin(taker, 0)
		ended(q, taker, 2)
	}
	noMore(t, q)
	for range 3 {
		if err := q.Begin(taker, 0); err != api.OK {
			t.Error("a Take behind the last Put:", err)
		}
		if x := ended(q, taker, 2); x != cameTo(0, api.ErrEmpty) {
			t.Error(x)
		}
	}
}

// A Put counts from when it begins, and one that was refused never does.
func TestMostPutsBegin(t *testing.T) { // P10.1
	for left := 1; left <= 7; left++ {
		q := mpsc.New()
		putSome(t, q, 0, 20)
		takeSome(t, q, 0, 20)
		for range 30 {
			q.Begin(1, 5)
			q.Begin(8, 5)
			q.Begin(-1, 5)
			q.Step(2)
		}
		ended(q, 1, 3)
		takeSome(t, q, 5, 1)
		putSome(t, q, 21, most-21-left)
		for thread := 1; thread <= left; thread++ {
			if err := q.Begin(thread, int64(most-left+thread-1)); err != api.OK {
				t.Fatalf("the Put %d of %d: %d", most-left+thread, most, err)
			}
		}
		for thread := 1; thread <= left; thread++ {
			if err := q.Begin(thread, 5); err != api.ErrBusy {
				t.Errorf("Begin of one that is busy, behind the last Put: %d", err)
			}
			if x := ended(q, thread, 3); x != wasPut(int64(most-left+thread-1)) {
				t.Errorf("the Put %d of %d: %v", most-left+thread, most, x)
			}
			if err := q.Begin(thread, 5); err != api.ErrLong {
				t.Errorf("Begin behind the last Put: %d", err)
			}
		}
		takeSome(t, q, 21, most-21)
		noMore(t, q)
	}
}
