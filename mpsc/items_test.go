package mpsc_test

import (
	"slices"
	"testing"

	"callboy/api"
	"callboy/mpsc"
)

// One who leaves early has had the first ones, and whoever comes behind him gets all.
func TestLeavesEarly(t *testing.T) { // P10.1
	list := []int64{5, 6, 7, 8, 9}
	g := filled(t, list...)
	seq := g.q.Items()
	for count := range list {
		var got []int64
		for v := range seq {
			got = append(got, v)
			if len(got) == count+1 {
				break
			}
		}
		if !slices.Equal(got, list[:count+1]) || !slices.Equal(slices.Collect(seq), list) {
			t.Errorf("%d: %v", count+1, got)
		}
		g.holds(t, act{})
	}
	calls := 0
	seq(func(int64) bool {
		calls++
		return false
	})
	if calls != 1 {
		t.Error("one who wants no more is called", calls, "times")
	}
}

func TestRangeInARange(t *testing.T) { // P10.1
	q := filled(t, 1, 2, 3).q
	var got []int64
	for v := range q.Items() {
		for w := range q.Items() {
			got = append(got, 10*v+w)
		}
	}
	if !slices.Equal(got, []int64{11, 12, 13, 21, 22, 23, 31, 32, 33}) {
		t.Error(got)
	}
}

// A range gives what there is when it begins, though Items was asked for earlier, or another range was gone through.
func TestRangesLater(t *testing.T) { // P10.1
	g := rigOf()
	seq := g.q.Items()
	if list := slices.Collect(seq); len(list) > 0 {
		t.Error(list)
	}
	g.put(t, 1, 10)
	g.put(t, 2, 20)
	if list := slices.Collect(seq); !slices.Equal(list, []int64{10, 20}) {
		t.Error(list)
	}
	g.take(t)
	if list := slices.Collect(seq); !slices.Equal(list, []int64{20}) {
		t.Error(list)
	}
}

// Whoever takes all that there is while he goes through it gets what he was to get.
func TestTakenMeanwhile(t *testing.T) { // P10.1
	list := []int64{4, 5, 6, 7}
	for at := range list {
		g := filled(t, list...)
		var got []int64
		for v := range g.q.Items() {
			if len(got) == at {
				g.takesAll(t)
			}
			got = append(got, v)
		}
		if !slices.Equal(got, list) || len(items(g.q)) > 0 {
			t.Errorf("taken at %d: %v, and there is %v", at, got, items(g.q))
		}
	}
}

// Whoever puts one more for each that he gets comes to an end.
func TestPutMeanwhile(t *testing.T) { // W0
	g := filled(t, 4, 5)
	var got []int64
	for v := range g.q.Items() {
		got = append(got, v)
		if len(got) > 9 {
			break
		}
		g.put(t, 3, v+10)
	}
	if !slices.Equal(got, []int64{4, 5}) || !slices.Equal(items(g.q), []int64{4, 5, 14, 15}) {
		t.Error(got, items(g.q))
	}
}

// At the place where a Put is half done what can be come to ends, and so does Items, though more was put.
func TestItemsEndAtAPutHalfDone(t *testing.T) { // P10.1
	for things := range 4 {
		for half := 1; half <= 3; half++ {
			g := filled(t, []int64{1, 2, 3}[:things]...)
			want := []int64{1, 2, 3}[:things:things]
			for thread := range half {
				g.begin(t, 1+thread, int64(20+thread))
				g.step(t, 1+thread, 2)
				g.put(t, 7, int64(30+thread))
			}
			for thread := range half {
				if !slices.Equal(items(g.q), want) {
					t.Errorf("%d things, %d of %d half done: %v", things, half-thread, half, items(g.q))
				}
				if x := g.step(t, 1+thread, 1); x.Err != api.OK {
					t.Error(x)
				}
				want = append(want, int64(20+thread), int64(30+thread))
			}
			if !slices.Equal(items(g.q), want) {
				t.Errorf("%d things, none of %d half done: %v", things, half, items(g.q))
			}
		}
	}
}

// What is asked for twice shares nothing.
func TestItemsAreNewMemory(t *testing.T) { // R4
	q := mpsc.New()
	if q.Items() == nil {
		t.Error("no iterator of an empty queue")
	}
	q = filled(t, 1, 2).q
	a, b := items(q), items(q)
	a[0] = 7
	if !slices.Equal(b, []int64{1, 2}) || !slices.Equal(items(q), b) {
		t.Error(b, items(q))
	}
}
