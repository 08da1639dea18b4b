package deque_test

import (
	"math"
	"slices"
	"testing"

	"callboy/api"
	"callboy/deque"
)

func TestExamples(t *testing.T) { // P9.1
	d := deque.New(4)
	d.Begin(0, push, 5)
	for n := 1; n <= 4; n++ {
		x, err := d.Step(0)
		if want := (deque.Done{Over: n == 4}); err != api.OK || x.Over != want.Over || n < 4 && x != want {
			t.Error("Push 5, step", n, x, err)
		}
		if x.Over && (x.Op != push || x.V != 5 || x.Err != api.OK) {
			t.Error("Push 5:", x)
		}
	}
	d.Begin(3, steal, 0)
	d.Step(3)
	d.Step(3)
	d.Begin(0, pop, 0)
	for n := 1; n <= 6; n++ {
		x, _ := d.Step(0)
		if n < 6 && x != (deque.Done{}) || n == 6 && x != (deque.Done{Over: true, Op: pop, V: 5}) {
			t.Error("Pop, step", n, x)
		}
	}
	if x, err := d.Step(3); x != (deque.Done{}) || err != api.OK {
		t.Error("Steal, step 3:", x, err)
	}
	if x, err := d.Step(3); x != (deque.Done{Over: true, Op: steal, Err: api.ErrTaken}) || err != api.OK {
		t.Error("Steal, step 4:", x, err)
	}
}

// Each operation, whole: what it comes to, in how many steps.
func TestWhole(t *testing.T) { // P9.1
	g := rigOf(3)
	for i, x := range []struct {
		thread, op int
		v          int64
		want       deque.Done
		steps      int
	}{
		{0, pop, 3, deque.Done{Over: true, Op: pop, Err: api.ErrEmpty}, 4},
		{1, steal, 3, deque.Done{Over: true, Op: steal, Err: api.ErrEmpty}, 2},
		{0, push, 10, deque.Done{Over: true, Op: push, V: 10}, 4},
		{0, push, 11, deque.Done{Over: true, Op: push, V: 11}, 4},
		{0, push, 12, deque.Done{Over: true, Op: push, V: 12}, 4},
		{0, push, 13, deque.Done{Over: true, Op: push, V: 13, Err: api.ErrFull}, 2},
		{7, steal, 4, deque.Done{Over: true, Op: steal, V: 10}, 4},
		{0, push, 13, deque.Done{Over: true, Op: push, V: 13}, 4},
		{0, push, 0, deque.Done{Over: true, Op: push, V: 0, Err: api.ErrFull}, 2},
		{0, pop, 5, deque.Done{Over: true, Op: pop, V: 13}, 4},
		{0, pop, 5, deque.Done{Over: true, Op: pop, V: 12}, 4},
		{0, pop, 5, deque.Done{Over: true, Op: pop, V: 11}, 6},
		{0, pop, 5, deque.Done{Over: true, Op: pop, Err: api.ErrEmpty}, 4},
		{2, steal, 5, deque.Done{Over: true, Op: steal, Err: api.ErrEmpty}, 2},
		{0, push, 0, deque.Done{Over: true, Op: push}, 4},
		{6, steal, 8, deque.Done{Over: true, Op: steal}, 4},
	} {
		if got, steps := g.whole(t, "whole", x.thread, x.op, x.v); got != x.want || steps != x.steps {
			t.Error(i, got, steps)
		}
	}
}

// words is what stands there behind an access.
type words struct {
	top, bottom int
	items       []int64
}

func TestSharedWordsAccessByAccess(t *testing.T) { // P9.1
	for _, x := range []struct {
		name       string
		list       []int64
		thread, op int
		want       []words
	}{
		{"a Push at an empty one", nil, 0, push, []words{{0, 0, nil}, {0, 0, nil}, {0, 0, nil}, {0, 1, []int64{9}}}},
		{"a Push behind another", []int64{4}, 0, push, []words{{0, 1, []int64{4}}, {0, 1, []int64{4}}, {0, 1, []int64{4}}, {0, 2, []int64{4, 9}}}},
		{"a Push at a full one", []int64{4, 5}, 0, push, []words{{0, 2, []int64{4, 5}}, {0, 2, []int64{4, 5}}}},
		{"a Pop at an empty one", nil, 0, pop, []words{{0, 0, nil}, {0, -1, nil}, {0, -1, nil}, {0, 0, nil}}},
		{"a Pop of the one", []int64{4}, 0, pop, []words{{0, 1, []int64{4}}, {0, 0, nil}, {0, 0, nil}, {0, 0, nil}, {1, 0, nil}, {1, 1, nil}}},
		{"a Pop of the last one", []int64{4, 5}, 0, pop, []words{{0, 2, []int64{4, 5}}, {0, 1, []int64{4}}, {0, 1, []int64{4}}, {0, 1, []int64{4}}}},
		{"a Steal at an empty one", nil, 4, steal, []words{{0, 0, nil}, {0, 0, nil}}},
		{"a Steal of the one", []int64{4}, 4, steal, []words{{0, 1, []int64{4}}, {0, 1, []int64{4}}, {0, 1, []int64{4}}, {1, 1, nil}}},
		{"a Steal of the first one", []int64{4, 5}, 4, steal, []words{{0, 2, []int64{4, 5}}, {0, 2, []int64{4, 5}}, {0, 2, []int64{4, 5}}, {1, 2, []int64{5}}}},
	} {
		d := filled(t, x.name, 2, x.list...).d
		d.Begin(x.thread, x.op, 9)
		if !d.Busy(x.thread) || !slices.Equal(d.Items(), x.list) {
			t.Errorf("%s: its Begin leaves %v", x.name, d.Items())
		}
		for i, want := range x.want {
			done, err := d.Step(x.thread)
			if last := i == len(x.want)-1; done.Over != last || d.Busy(x.thread) == last || err != api.OK {
				t.Errorf("%s, step %d: %v %v, busy: %v", x.name, i+1, done, err, d.Busy(x.thread))
			}
			if d.Top() != want.top || d.Bottom() != want.bottom || !slices.Equal(d.Items(), want.items) {
				t.Errorf("%s, step %d: %d %d %v", x.name, i+1, d.Top(), d.Bottom(), d.Items())
			}
		}
	}
}

// A thread sleeps behind any of its accesses, while another thread's operation goes on, whole.
func TestSleepsBetweenAnyTwoAccesses(t *testing.T) { // P9.1, P9.3
	const name = "asleep"
	for things := range 4 {
		for first, thread := range map[int]int{push: 0, pop: 0, steal: 1} {
			for at := range 6 {
				for then := range 3 {
					g := turned(t, name, 3, 5, []int64{40, 41, 42}[:things]...)
					g.begin(t, name, thread, first, 50)
					for range at {
						if g.d.Busy(thread) {
							g.step(t, name, thread, 1)
						}
					}
					for range 5 {
						switch {
						case then == steal:
							g.whole(t, name, 2, steal, 0)
						case !g.d.Busy(0):
							g.whole(t, name, 0, then, 60)
						}
					}
					if g.d.Busy(thread) {
						g.ends(t, name, thread)
					}
				}
			}
		}
	}
}

// A Push is refused by what top was at its second access, not earlier, nor later.
func TestPushReadsTopAtItsSecond(t *testing.T) { // P9.1
	const name = "full"
	for size := 1; size <= 4; size++ {
		for at := range 3 {
			g := filled(t, name, size, []int64{1, 2, 3, 4}[:size]...)
			g.begin(t, name, 5, steal, 0)
			g.step(t, name, 5, 3)
			g.begin(t, name, 0, push, 9)
			g.step(t, name, 0, min(at, 1))
			if at < 2 {
				g.step(t, name, 5, 1)
			}
			x, n := g.ends(t, name, 0)
			if at < 2 && (x.Err != api.OK || n != 4-at) || at == 2 && (x.Err != api.ErrFull || n != 1) {
				t.Errorf("size %d, a Steal behind %d accesses: %v in %d", size, at, x, n)
			}
		}
	}
}

// A Steal that has read top and bottom ahead of a whole Pop.
func TestStealThatKnowsOfWhatIsPopped(t *testing.T) { // P9.1, P9.2
	const name = "known"
	for things := 1; things <= 4; things++ {
		for at := 1; at <= 3; at++ {
			g := turned(t, name, 4, 3, []int64{20, 21, 22, 23}[:things]...)
			g.begin(t, name, 1, steal, 0)
			g.step(t, name, 1, at)
			if x, _ := g.whole(t, name, 0, pop, 0); x.Err != api.OK || x.V != 19+int64(things) {
				t.Errorf("%d things: Pop: %v", things, x)
			}
			want := deque.Done{Over: true, Op: steal, V: 20}
			if things == 1 {
				want = deque.Done{Over: true, Op: steal, Err: api.ErrTaken}
			}
			if x, _ := g.ends(t, name, 1); x != want {
				t.Errorf("%d things: Steal behind %d accesses: %v", things, at, x)
			}
		}
	}
}

// A thief that knows top, bottom and a thing sleeps, while its place is used again and again.
func TestStealSleepsWhilePlacesAreUsedAgain(t *testing.T) { // P9.1, P9.2
	const name = "slept"
	for size := 1; size <= 5; size++ {
		for at := 1; at <= 3; at++ {
			for rounds := range 4 * size {
				g := filled(t, name, size, 100)
				g.begin(t, name, 7, steal, 0)
				g.step(t, name, 7, at)
				for n := range rounds {
					g.whole(t, name, 2, steal, 0)
					g.whole(t, name, 0, push, int64(200+n))
				}
				want := deque.Done{Over: true, Op: steal, Err: api.ErrTaken}
				if rounds == 0 {
					want = deque.Done{Over: true, Op: steal, V: 100}
				}
				if x, _ := g.ends(t, name, 7); x != want {
					t.Errorf("size %d, behind %d accesses, %d rounds: %v", size, at, rounds, x)
				}
			}
		}
	}
}

func TestSizes(t *testing.T) { // P9.1
	for _, x := range [][2]int{
		{math.MinInt, 1}, {math.MinInt32, 1}, {-1 << 32, 1}, {-64, 1}, {-2, 1}, {-1, 1}, {0, 1}, {1, 1}, {2, 2}, {3, 3}, {7, 7}, {api.DequeSize, 8}, {9, 9}, {31, 31}, {32, 32}, {33, 33},
		{62, 62}, {63, 63}, {64, 64}, {65, 64}, {66, 64}, {128, 64}, {4096, 64}, {math.MaxInt32, 64}, {1 << 32, 64}, {1<<32 + 1, 64}, {math.MaxInt, 64},
	} {
		d := deque.New(x[0])
		if d.Size() != x[1] || d.Top() != 0 || d.Bottom() != 0 || len(d.Items()) != 0 {
			t.Errorf("size %d: %d, %d, %d, %v", x[0], d.Size(), d.Top(), d.Bottom(), d.Items())
		}
		g := &rig{d, taleOf(x[1]), &ledger{size: x[1]}}
		// Behind a round of 70, no number's place is the number itself.
		for round := range 3 {
			for k := range x[1] + 2 {
				y, steps := g.whole(t, "sizes", 0, push, int64(1000*round+k))
				if full := k >= x[1]; full != (y.Err == api.ErrFull) || full != (steps == 2) {
					t.Errorf("size %d: the Push %d: %v in %d", x[0], k, y, steps)
				}
			}
			for k := range x[1] + 1 {
				if y, _ := g.whole(t, "sizes", 1+k%7, steal, 0); (y.Err == api.OK) != (k < x[1]) || k < x[1] && y.V != int64(1000*round+k) {
					t.Errorf("size %d: the Steal %d: %v", x[0], k, y)
				}
			}
			for k := range 70 {
				g.whole(t, "sizes", 0, push, int64(-k))
				g.whole(t, "sizes", 0, pop, 0)
			}
		}
	}
}

func TestFarNumbers(t *testing.T) { // P9.1, P9.2
	far := []int64{math.MinInt64, math.MaxInt64, 0, -1, 1, math.MinInt64 + 1, math.MaxInt64 - 1, math.MinInt32, math.MaxInt32, 1 << 32, -1 << 32, 1<<53 + 1, -1<<53 - 1}
	g := rigOf(len(far))
	for _, v := range far {
		if x, _ := g.whole(t, "far", 0, push, v); x != (deque.Done{Over: true, V: v}) {
			t.Errorf("Push of %d: %v", v, x)
		}
	}
	for _, v := range far {
		if x, _ := g.whole(t, "far", 0, push, v); x != (deque.Done{Over: true, V: v, Err: api.ErrFull}) {
			t.Errorf("Push of %d at a full one: %v", v, x)
		}
	}
	if !slices.Equal(g.d.Items(), far) {
		t.Error(g.d.Items())
	}
	for len(far) > 2 {
		if x, _ := g.whole(t, "far", 1, steal, far[5%len(far)]); x.V != far[0] || x.Err != api.OK {
			t.Errorf("Steal of %d: %v", far[0], x)
		}
		if x, _ := g.whole(t, "far", 0, pop, far[0]); x.V != far[len(far)-1] || x.Err != api.OK {
			t.Errorf("Pop of %d: %v", far[len(far)-1], x)
		}
		far = far[1 : len(far)-1]
	}
}

// The same number pushed again and again comes out as often as it was pushed.
func TestSameNumbers(t *testing.T) { // P9.2
	g := filled(t, "same", 5, 3, 3, 3, 3)
	for k := range 4 {
		if x, _ := g.whole(t, "same", 0, pop, 0); x.V != 3 || len(g.d.Items()) != 3-k {
			t.Error(k, x, g.d.Items())
		}
	}
	if x, _ := g.whole(t, "same", 0, pop, 0); x.Err != api.ErrEmpty {
		t.Error(x)
	}
}

// Behind each access of each operation, all that may not be is asked, and nothing changes.
func TestWrongCalls(t *testing.T) { // P9.1
	const name = "wrong"
	for things := range 4 {
		for op, thread := range map[int]int{push: 0, pop: 0, steal: 3} {
			for other := range 3 {
				g := turned(t, name, 3, 4, []int64{30, 31, 32}[:things]...)
				g.begin(t, name, 6, steal, 0)
				g.step(t, name, 6, min(other, 1))
				g.begin(t, name, thread, op, 77)
				for g.d.Busy(thread) {
					for _, a := range wrongActs() {
						if x := g.does(t, name, a); x != (answer{err: api.ErrArg}) {
							t.Fatalf("%v: %v", a, x)
						}
					}
					g.refused(t, name)
					g.step(t, name, thread, 1)
				}
				g.ends(t, name, 6)
				g.refused(t, name)
			}
		}
	}
}

// Where a thread is busy, an op that isn't one of its is the first that the chapter names.
func TestOrderOfErrors(t *testing.T) { // P9.1
	d := deque.New(2)
	d.Begin(0, push, 1)
	d.Begin(1, steal, 0)
	for _, x := range []struct {
		thread, op int
		want       api.Errno
	}{
		{0, steal, api.ErrArg}, {0, 3, api.ErrArg}, {0, -1, api.ErrArg}, {0, push, api.ErrBusy}, {0, pop, api.ErrBusy},
		{1, push, api.ErrArg}, {1, pop, api.ErrArg}, {1, 3, api.ErrArg}, {1, -1, api.ErrArg}, {1, steal, api.ErrBusy},
		{8, steal, api.ErrArg}, {-1, push, api.ErrArg}, {2, steal, api.OK}, {2, steal, api.ErrBusy},
	} {
		if err := d.Begin(x.thread, x.op, 4); err != x.want {
			t.Errorf("Begin(%d, %d): %d", x.thread, x.op, err)
		}
	}
	// What was refused hasn't changed what is to be pushed.
	for range 3 {
		d.Step(0)
	}
	if x, _ := d.Step(0); x.V != 1 || !slices.Equal(d.Items(), []int64{1}) {
		t.Error(x, d.Items())
	}
}

func TestNil(t *testing.T) { // P9.1
	var d *deque.Deque
	far := []int{math.MinInt, -1, 0, 1, 2, 3, 7, 8, math.MaxInt}
	for _, thread := range far {
		for _, op := range far {
			if err := d.Begin(thread, op, 5); err != api.ErrArg {
				t.Errorf("Begin(%d, %d): %d", thread, op, err)
			}
		}
		if x, err := d.Step(thread); x != (deque.Done{}) || err != api.ErrArg {
			t.Errorf("Step(%d): %v, %d", thread, x, err)
		}
		if d.Busy(thread) {
			t.Errorf("Busy(%d)", thread)
		}
	}
	if d.Top() != 0 || d.Bottom() != 0 || d.Size() != 0 || len(d.Items()) != 0 {
		t.Error(d.Top(), d.Bottom(), d.Size(), d.Items())
	}
}

// One that New didn't make has no places, but each call ends, and none panics.
func TestNotMade(t *testing.T) { // W0
	var d deque.Deque
	for _, a := range []act{{op: push, v: 3}, {op: pop}, {thread: 4, op: steal}} {
		if x := does(&d, a); x != (answer{}) {
			t.Error(a, x)
		}
		for d.Busy(a.thread) {
			if x := does(&d, act{step: true, thread: a.thread}); x.err != api.OK || x.done.Over && x.done.Err == api.OK {
				t.Error(a, x)
			}
		}
	}
	if d.Size() != 0 || d.Top() != 0 || d.Bottom() != 0 || len(d.Items()) != 0 {
		t.Error(d.Size(), d.Top(), d.Bottom(), d.Items())
	}
}

// A list of items is the caller's own.
func TestItemsAreNewMemory(t *testing.T) { // R4
	g := filled(t, "own", 4, 1, 2, 3)
	a, b := g.d.Items(), g.d.Items()
	a[0], a[1], a[2] = 7, 8, 9
	_ = append(a[:1], 5, 6)
	if !slices.Equal(b, []int64{1, 2, 3}) || !slices.Equal(g.d.Items(), b) {
		t.Error(b, g.d.Items())
	}
	g.whole(t, "own", 0, push, 4)
	g.whole(t, "own", 1, steal, 0)
	g.whole(t, "own", 0, push, 5)
	if !slices.Equal(b, []int64{1, 2, 3}) || !slices.Equal(g.d.Items(), []int64{2, 3, 4, 5}) {
		t.Error(b, g.d.Items())
	}
}

// To ask changes nothing, and what one deque is given no other one knows of.
func TestEachForItself(t *testing.T) { // R6
	a, b := rigOf(2), rigOf(2)
	ca, cb := chance(1), chance(2)
	for range 3000 {
		a.does(t, "one of two", anyAct(ca, a, 2))
		b.does(t, "the other one", anyAct(cb, b, 3))
		for range 3 {
			a.holds(t, "asked again", act{})
		}
	}
	if a.m.bottom < 10 || b.m.bottom < 10 {
		t.Error("hardly anything was done", a.m.bottom, b.m.bottom)
	}
}
