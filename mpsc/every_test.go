package mpsc_test

import (
	"iter"
	"slices"
	"testing"

	"callboy/api"
)

// rows gives every order in which each thread has so many steps; one list serves for all.
func rows(steps ...int) iter.Seq[[]int] {
	return func(yield func([]int) bool) {
		var row []int
		for thread, n := range steps {
			row = append(row, slices.Repeat([]int{thread}, n)...)
		}
		for more := true; more && yield(row); {
			more = toNext(row)
		}
	}
}

// toNext makes of a row the one that comes behind it in the order of lists, if there is one.
func toNext(row []int) bool {
	for i := len(row) - 2; i >= 0; i-- {
		if row[i] >= row[i+1] {
			continue
		}
		rest := row[i+1:]
		slices.Reverse(rest)
		j := slices.IndexFunc(rest, func(x int) bool { return x > row[i] })
		row[i], rest[j] = rest[j], row[i]
		return true
	}
	return false
}

// How many orders there are is known.
func TestRowsLeaveNoneOut(t *testing.T) { // P10.2
	for _, x := range []struct {
		steps []int
		want  int
	}{
		{[]int{2}, 1}, {[]int{2, 3}, 10}, {[]int{0, 3, 3}, 20}, {[]int{2, 3, 3}, 560}, {[]int{1, 1, 1, 1, 1, 1, 1}, 5040},
	} {
		seen, last := 0, []int(nil)
		for row := range rows(x.steps...) {
			if slices.Compare(row, last) <= 0 {
				t.Fatal(row, "behind", last)
			}
			seen, last = seen+1, slices.Clone(row)
		}
		if seen != x.want {
			t.Errorf("%v: %d", x.steps, seen)
		}
	}
}

// Some Puts by each of some putters and some Takes, at every interleaving of their accesses.
func TestEveryInterleaving(t *testing.T) { // P10.1, P10.2, P10.3
	for _, x := range []struct {
		things int
		steps  []int // two for each Take, three for each Put
	}{
		{0, []int{6, 3}}, {1, []int{8, 6}}, {0, []int{4, 3, 3}}, {1, []int{4, 3, 3}}, {2, []int{6, 3, 3}},
		{0, []int{2, 6, 3}}, {1, []int{4, 6, 3}}, {0, []int{0, 3, 3, 3}}, {0, []int{2, 3, 3, 3}}, {0, []int{0, 6, 6}}, {1, []int{2, 0, 0, 3, 0, 0, 0, 6}},
	} {
		for _, early := range []bool{false, true} {
			for row := range rows(x.steps...) {
				p := &play{rig: filled(t, []int64{-1, -2}[:x.things]...)}
				for thread, n := range x.steps {
					if early && n > 0 {
						p.begins(t, thread)
					}
				}
				for _, thread := range row {
					p.next(t, thread)
				}
				p.inOrder(t)
			}
		}
	}
}

// Up to seven Puts have written head; whichever ends first, one comes from the tail just as far as all have ended.
func TestPutsEndInAnyOrder(t *testing.T) { // P10.1, P10.2
	for putters := 1; putters <= 7; putters++ {
		for row := range rows(slices.Repeat([]int{1}, putters)...) {
			g := rigOf()
			for thread := 1; thread <= putters; thread++ {
				g.begin(t, thread, int64(thread))
				g.step(t, thread, 2)
			}
			ended := make([]bool, putters+1)
			for _, n := range row {
				g.step(t, n+1, 1)
				ended[n] = true
				if far := slices.Index(ended, false); len(items(g.q)) != far {
					t.Fatalf("%v, behind %d: %v", row, n+1, items(g.q))
				}
			}
		}
	}
}

// Up to seven Puts, each left at any of its accesses; then Takes; then all the rest.
func TestHalfDoneAnywhere(t *testing.T) { // P10.1, P10.2, P10.3
	for putters := 1; putters <= 7; putters++ {
		for code := range 1 << (2 * putters) {
			g := rigOf()
			whole, written := 0, 0
			for n := range putters {
				accesses := code >> (2 * n) & 3
				g.begin(t, n+1, int64(n))
				g.step(t, n+1, accesses)
				if accesses >= 2 {
					written++
				}
				if accesses == 3 && whole == written-1 {
					whole++
				}
			}
			for range whole {
				if x := g.take(t); x.Err != api.OK {
					t.Fatalf("%d of %d: %v", code, putters, x)
				}
			}
			want := cameTo(0, api.ErrBusy)
			if whole == written {
				want = cameTo(0, api.ErrEmpty)
			}
			if x := g.take(t); x != want {
				t.Fatalf("%d of %d: %v", code, putters, x)
			}
			if list := g.takesAll(t); len(list) != putters-whole {
				t.Fatalf("%d of %d, in the end: %v", code, putters, list)
			}
		}
	}
}
