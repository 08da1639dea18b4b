package pids_test

import (
	"slices"
	"testing"

	"callboy/pids"
)

// None, some and all, in several generations: by slots, not by numbers.
func TestAllGivesBySlots(t *testing.T) { // P12.1
	for count := range slots + 1 {
		g := some(t, count)
		g.holds(t)
		if got := allOf(g.x); !slices.Equal(got, upTo(count)) {
			t.Fatalf("of %d: %v", count, got)
		}
		var want []int64
		for s := range count {
			want = append(want, pidOf(s, (count-s)%3))
			for n := range (count - s) % 3 {
				g.frees(t, pidOf(s, n))
				g.alloc(t, pidOf(s, n+1))
			}
		}
		if got := allOf(g.x); !slices.Equal(got, want) {
			t.Fatalf("%v, not %v", got, want)
		}
		for s := 0; s < count; s += 2 {
			g.frees(t, want[s])
		}
		g.holds(t)
	}
}

func TestRangeLeftEarly(t *testing.T) { // P12.1, W0
	for _, count := range []int{1, 2, 5, 31, 32} {
		g := some(t, count)
		for leave := 1; leave <= count; leave++ {
			var list []int64
			for pid := range g.x.All() {
				if list = append(list, pid); len(list) == leave {
					break
				}
			}
			if !slices.Equal(list, upTo(leave)) {
				t.Errorf("left behind %d: %v", leave, list)
			}
			g.holds(t)
		}
	}
}

// change is something that is done to a table while it is gone through.
type change struct {
	name string
	do   func(x *pids.Table)
}

func changes() []change {
	return []change{
		{"nothing", func(x *pids.Table) {}},
		{"Alloc", func(x *pids.Table) { x.Alloc() }},
		{"Free of the first one", func(x *pids.Table) { x.Free(1) }},
		{"Free of another one", func(x *pids.Table) { x.Free(3) }},
		{"Free of nobody", func(x *pids.Table) { x.Free(99) }},
		{"Free, Alloc", func(x *pids.Table) { x.Free(2); x.Alloc() }},
		{"all are taken", func(x *pids.Table) {
			for range slots {
				x.Alloc()
			}
		}},
		{"all are freed", func(x *pids.Table) {
			for _, pid := range allOf(x) {
				x.Free(pid)
			}
		}},
		{"others instead of all", func(x *pids.Table) {
			for _, pid := range allOf(x) {
				x.Free(pid)
			}
			for range slots {
				x.Alloc()
			}
		}},
	}
}

// now is what a table has, asked by Live alone, of the first generations.
func now(x *pids.Table) []int64 {
	var list []int64
	for s := range slots {
		for n := range 5 {
			if pid := pidOf(s, n); x.Live(pid) {
				list = append(list, pid)
			}
		}
	}
	return list
}

// A table that is changed behind any of its pids: what is given is what was there when the range began, a second range gives what is there now.
func TestChangedWhileAllGives(t *testing.T) { // P12.1, R6
	for _, c := range changes() {
		for _, count := range []int{1, 2, 3, 4, 9, 31, 32} {
			for when := range count {
				x := some(t, count).x
				var list []int64
				for pid := range x.All() {
					if len(list) == when {
						c.do(x)
					}
					list = append(list, pid)
				}
				if !slices.Equal(list, upTo(count)) {
					t.Fatalf("%s behind %d of %d: %v", c.name, when, count, list)
				}
				if got, want := allOf(x), now(x); !slices.Equal(got, want) || x.Len() != len(want) {
					t.Fatalf("%s: then %v, not %v", c.name, got, want)
				}
			}
		}
	}
}

// The range begins when it is gone through, not when it is asked for; each new range begins anew.
func TestRangeBeginsWhenItIsGoneThrough(t *testing.T) { // P12.1
	for _, c := range changes() {
		x := some(t, 4).x
		all := x.All()
		for range 3 {
			c.do(x)
			if got, want := slices.Collect(all), now(x); !slices.Equal(got, want) {
				t.Errorf("%s: %v, not %v", c.name, got, want)
			}
		}
	}
}

func TestRangesWithinRanges(t *testing.T) { // P12.1
	g := some(t, 3)
	all := g.x.All()
	var list []int64
	for pid := range all {
		g.frees(t, pid)
		for other := range all {
			list = append(list, other)
		}
		g.takes(t, 1)
		list = append(list, pid)
	}
	if want := []int64{2, 3, 1, 33, 3, 2, 33, 34, 3}; !slices.Equal(list, want) || !slices.Equal(allOf(g.x), []int64{33, 34, 35}) {
		t.Errorf("%v, not %v; then %v", list, want, allOf(g.x))
	}
}

// A range that the one who goes through it panics out of leaves the table as it was.
func TestRangeLeftByPanic(t *testing.T) { // P12.1
	g := some(t, 3)
	func() {
		defer func() { recover() }()
		for range g.x.All() {
			panic("out")
		}
	}()
	g.holds(t)
}
