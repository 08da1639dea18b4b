package mpsc_test

import (
	"math"
	"slices"
	"testing"

	"callboy/api"
	"callboy/mpsc"
)

func TestExamples(t *testing.T) { // P10.1
	for _, x := range []struct {
		accesses int
		want     mpsc.Done
	}{
		{0, cameTo(0, api.ErrEmpty)}, {1, cameTo(0, api.ErrEmpty)}, {2, cameTo(0, api.ErrBusy)}, {3, cameTo(11, api.OK)},
	} {
		q := mpsc.New()
		q.Begin(1, 11)
		for n := 1; n <= x.accesses; n++ {
			want := mpsc.Done{}
			if n == 3 {
				want = mpsc.Done{Over: true, V: 11}
			}
			if got, err := q.Step(1); got != want || err != api.OK {
				t.Errorf("the Put's access %d: %v, %d", n, got, err)
			}
		}
		if err := q.Begin(0, 4); err != api.OK {
			t.Error("Begin of a Take:", err)
		}
		if got, err := q.Step(0); got != (mpsc.Done{}) || err != api.OK {
			t.Error("the Take's access 1:", got, err)
		}
		if got, err := q.Step(0); got != x.want || err != api.OK {
			t.Errorf("behind %d of the Put's accesses, the Take's access 2: %v, %d", x.accesses, got, err)
		}
	}
}

// Each operation, whole, one after the other.
func TestWhole(t *testing.T) { // P10.1
	g := rigOf()
	for i, x := range []struct {
		thread int
		v      int64
		want   mpsc.Done
		items  []int64
	}{
		{0, 3, cameTo(0, api.ErrEmpty), nil},
		{1, 10, wasPut(10), []int64{10}},
		{7, 20, wasPut(20), []int64{10, 20}},
		{1, 11, wasPut(11), []int64{10, 20, 11}},
		{0, 0, cameTo(10, api.OK), []int64{20, 11}},
		{4, 0, wasPut(0), []int64{20, 11, 0}},
		{0, 77, cameTo(20, api.OK), []int64{11, 0}},
		{0, -1, cameTo(11, api.OK), []int64{0}},
		{0, 0, cameTo(0, api.OK), nil},
		{0, 0, cameTo(0, api.ErrEmpty), nil},
		{0, 9, cameTo(0, api.ErrEmpty), nil},
		{2, -5, wasPut(-5), []int64{-5}},
		{0, 0, cameTo(-5, api.OK), nil},
		{0, 0, cameTo(0, api.ErrEmpty), nil},
	} {
		g.begin(t, x.thread, x.v)
		steps := 3
		if x.thread == taker {
			steps = 2
		}
		if got := g.step(t, x.thread, steps); got != x.want || g.q.Busy(x.thread) || !slices.Equal(items(g.q), x.items) {
			t.Errorf("%d: %v, items %v", i, got, items(g.q))
		}
	}
}

// What can be come to from the tail changes at a Put's last access and at a Take's, and at no other one.
func TestItemsAccessByAccess(t *testing.T) { // P10.1
	for _, x := range []struct {
		name   string
		list   []int64
		thread int
		want   [][]int64
	}{
		{"a Put at an empty one", nil, 3, [][]int64{nil, nil, nil, {9}}},
		{"a Put behind others", []int64{4, 5}, 3, [][]int64{{4, 5}, {4, 5}, {4, 5}, {4, 5, 9}}},
		{"a Take at an empty one", nil, taker, [][]int64{nil, nil, nil}},
		{"a Take of the one", []int64{4}, taker, [][]int64{{4}, {4}, nil}},
		{"a Take of the first one", []int64{4, 5}, taker, [][]int64{{4, 5}, {4, 5}, {5}}},
	} {
		q := filled(t, x.list...).q
		q.Begin(x.thread, 9)
		for at, want := range x.want {
			if at > 0 {
				done, err := q.Step(x.thread)
				if last := at == len(x.want)-1; done.Over != last || err != api.OK {
					t.Errorf("%s, access %d: %v, %d", x.name, at, done, err)
				}
			}
			if !slices.Equal(items(q), want) || q.Busy(x.thread) != (at < len(x.want)-1) {
				t.Errorf("%s, access %d: %v, busy: %v", x.name, at, items(q), q.Busy(x.thread))
			}
		}
	}
}

// A Take has read that there is no next; a Put, which had so many accesses ahead of that, goes on; then the Take does.
func TestTakeThatReadNoNextSleeps(t *testing.T) { // P10.1, P10.2
	for ahead := range 3 {
		for behind := ahead; behind <= 3; behind++ {
			for others := range 3 {
				g := filled(t, 1, 2)
				g.take(t)
				g.take(t)
				g.begin(t, 5, 50)
				g.step(t, 5, ahead)
				g.begin(t, taker, 0)
				g.step(t, taker, 1)
				g.step(t, 5, behind-ahead)
				for n := range others {
					g.put(t, 6, int64(60+n))
				}
				want := cameTo(0, api.ErrEmpty)
				if behind >= 2 || others > 0 {
					want = cameTo(0, api.ErrBusy)
				}
				if x := g.step(t, taker, 1); x != want {
					t.Errorf("a Put at %d, then %d, others %d: %v", ahead, behind, others, x)
				}
				// From the tail, one can come to it now, unless the first one's Put is half done.
				want = cameTo(50, api.OK)
				switch {
				case behind == 2:
					want = cameTo(0, api.ErrBusy)
				case behind < 2 && others > 0:
					want = cameTo(60, api.OK)
				case behind < 2:
					want = cameTo(0, api.ErrEmpty)
				}
				if x := g.take(t); x != want {
					t.Errorf("a Put at %d, then %d, others %d; the next Take: %v", ahead, behind, others, x)
				}
				g.takesAll(t)
			}
		}
	}
}

// A Take has read a next, and hands that out whatever is put meanwhile.
func TestTakeThatReadANextSleeps(t *testing.T) { // P10.1, P10.2
	for things := 1; things <= 4; things++ {
		for puts := range 5 {
			for accesses := 1; accesses <= 3; accesses++ {
				g := filled(t, []int64{30, 31, 32, 33}[:things]...)
				g.begin(t, taker, 8)
				g.step(t, taker, 1)
				for n := range puts {
					g.begin(t, 1+n, int64(40+n))
					g.step(t, 1+n, accesses)
				}
				if x := g.step(t, taker, 1); x != cameTo(30, api.OK) {
					t.Errorf("%d things, %d Puts of %d accesses: %v", things, puts, accesses, x)
				}
				if list := g.takesAll(t); len(list) != things-1+puts {
					t.Errorf("%d things, %d Puts of %d accesses, in the end: %v", things, puts, accesses, list)
				}
			}
		}
	}
}

// A putter sleeps between any two of its accesses, while others put and the taker takes.
func TestPutterSleeps(t *testing.T) { // P10.1, P10.2, P10.3
	for things := range 4 {
		for accesses := range 4 {
			for others := range 5 {
				g := filled(t, []int64{1, 2, 3}[:things]...)
				g.begin(t, 2, 20)
				g.step(t, 2, accesses)
				want := []int64{1, 2, 3}[:things:things]
				if accesses >= 2 {
					want = append(want, 20)
				}
				for n := range others {
					g.put(t, 1+2*(n%2), int64(30+n))
					want = append(want, int64(30+n))
				}
				if accesses < 2 {
					want = append(want, 20)
				}
				var got []int64
				for range 6 {
					x := g.take(t)
					if x.Err == api.OK {
						got = append(got, x.V)
					}
					// What it left half done keeps all that was put behind it from the taker, but nothing ahead of it.
					if busy := accesses == 2 && len(got) == things && x.Err != api.OK; busy != (x.Err == api.ErrBusy) {
						t.Errorf("%d things, asleep behind %d accesses, %d others: %v behind %v", things, accesses, others, x, got)
					}
				}
				if got = append(got, g.takesAll(t)...); !slices.Equal(got, want) {
					t.Errorf("%d things, asleep behind %d accesses, %d others: %v, not %v", things, accesses, others, got, want)
				}
			}
		}
	}
}

func TestFarNumbers(t *testing.T) { // P10.1
	far := []int64{math.MinInt64, math.MaxInt64, 0, -1, 1, math.MinInt64 + 1, math.MaxInt64 - 1, math.MinInt32, math.MaxInt32, 1 << 32, -1 << 32, 1<<53 + 1, -1<<53 - 1}
	g := filled(t, far...)
	if !slices.Equal(items(g.q), far) {
		t.Error(items(g.q))
	}
	for _, v := range far {
		g.begin(t, taker, far[3]-v)
		if x := g.step(t, taker, 2); x != cameTo(v, api.OK) {
			t.Errorf("the Take of %d: %v", v, x)
		}
	}
	for _, v := range far {
		g.begin(t, taker, v)
		if x := g.step(t, taker, 2); x != cameTo(0, api.ErrEmpty) {
			t.Errorf("a Take at an empty one, begun with %d: %v", v, x)
		}
	}
}

// The same number comes out as often as it was put.
func TestSameNumbers(t *testing.T) { // P10.3
	g := filled(t, 3, 3, 3, 3, 3)
	if list := g.takesAll(t); !slices.Equal(list, []int64{3, 3, 3, 3, 3}) {
		t.Error(list)
	}
}

// Behind each access of each operation, all that may not be is asked, and nothing changes.
func TestWrongCalls(t *testing.T) { // P10.1
	for things := range 3 {
		for thread := range threads {
			for other := range 4 {
				g := filled(t, []int64{1, 2}[:things]...)
				half := 1 + thread%7
				g.begin(t, half, 50)
				g.step(t, half, other)
				for range 3 {
					g.refused(t)
					if !g.q.Busy(thread) {
						g.begin(t, thread, 70)
						g.refused(t)
					}
					g.step(t, thread, 1)
				}
				g.refused(t)
				if list := g.takesAll(t); slices.Contains(list, 999) || slices.Contains(list, 5) {
					t.Error("what was refused is there:", list)
				}
			}
		}
	}
}

// A Begin of one that is busy doesn't change what is under way, nor what is put.
func TestBusyKeepsWhatItHas(t *testing.T) { // P10.1
	for at := range 3 {
		q := mpsc.New()
		q.Begin(4, 12)
		for n := range 3 {
			if n == at {
				if err := q.Begin(4, 13); err != api.ErrBusy {
					t.Error(at, err)
				}
			}
			if x, err := q.Step(4); err != api.OK || n == 2 && x != wasPut(12) || n < 2 && x != (mpsc.Done{}) {
				t.Errorf("refused behind %d accesses, access %d: %v, %d", at, n+1, x, err)
			}
		}
		if !slices.Equal(items(q), []int64{12}) {
			t.Error(at, items(q))
		}
	}
	q := mpsc.New()
	q.Begin(0, 0)
	q.Step(0)
	if err := q.Begin(0, 1); err != api.ErrBusy {
		t.Error(err)
	}
	if x, err := q.Step(0); x != cameTo(0, api.ErrEmpty) || err != api.OK {
		t.Error("the Take has its second access still ahead:", x, err)
	}
}

func TestNil(t *testing.T) { // P10.1
	var q *mpsc.Queue
	for _, thread := range append(farThreads(), 0, 1, 2, 3, 4, 5, 6, 7) {
		for _, v := range []int64{0, 5, math.MinInt64} {
			if err := q.Begin(thread, v); err != api.ErrArg {
				t.Errorf("Begin(%d, %d): %d", thread, v, err)
			}
		}
		if x, err := q.Step(thread); x != (mpsc.Done{}) || err != api.ErrArg {
			t.Errorf("Step(%d): %v, %d", thread, x, err)
		}
		if q.Busy(thread) {
			t.Errorf("Busy(%d)", thread)
		}
	}
	for v := range q.Items() {
		t.Error("an item of nil:", v)
	}
}

// One that New didn't make is empty too, and none of its calls panics.
func TestNotMade(t *testing.T) { // W0
	for first := range threads {
		g := &rig{&mpsc.Queue{}, taleOf(), ledgerOf()}
		g.holds(t, act{})
		g.refused(t)
		g.begin(t, first, 6)
		g.ends(t)
		g.put(t, 2, 7)
		if list, n := g.takesAll(t), min(first, 1); !slices.Equal(list, []int64{6, 7}[1-n:]) {
			t.Errorf("the thread %d first: %v", first, list)
		}
	}
}

// To ask changes nothing, and what one queue is given no other one knows of.
func TestEachForItself(t *testing.T) { // R6
	a, b := rigOf(), rigOf()
	ca, cb := chance(1), chance(2)
	for range 3000 {
		a.does(t, anyAct(ca, a, 3, 1))
		b.does(t, anyAct(cb, b, 5, 1))
		for range 3 {
			a.holds(t, act{})
		}
	}
	if len(a.m.v) < 100 || len(b.m.v) < 100 {
		t.Error("hardly anything was done", len(a.m.v), len(b.m.v))
	}
}
