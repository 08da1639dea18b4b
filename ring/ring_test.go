package ring_test

import (
	"math"
	"slices"
	"strconv"
	"testing"

	"callboy/api"
	"callboy/ring"
)

func TestExample(t *testing.T) { // P7.1
	r := ring.New[int](2)
	if r.Put(1) != api.OK || r.Put(2) != api.OK || r.Put(3) != api.ErrFull || r.Push(0) != api.ErrFull {
		t.Error("Put, Push")
	}
	if x, ok := r.Take(); x != 1 || !ok {
		t.Error("Take:", x, ok)
	}
	if err := r.Push(5); err != api.OK {
		t.Error("Push:", err)
	}
	if x, ok := r.Pop(); x != 2 || !ok {
		t.Error("Pop:", x, ok)
	}
	var list []int
	for i, x := range r.All() {
		list = append(list, i, x)
	}
	if !slices.Equal(list, []int{0, 5}) {
		t.Error("All:", list)
	}
}

func TestSizes(t *testing.T) { // P7.1
	for _, x := range []struct{ size, want int }{
		{math.MinInt, 1}, {math.MinInt + 1, 1}, {-1 << 32, 1}, {-4096, 1}, {-2, 1}, {-1, 1}, {0, 1},
		{1, 1}, {2, 2}, {3, 3}, {8, 8}, {100, 100}, {4095, 4095}, {4096, 4096},
		{4097, 4096}, {5000, 4096}, {8192, 4096}, {1 << 32, 4096}, {1<<32 + 5, 4096}, {math.MaxInt - 1, 4096}, {math.MaxInt, 4096},
	} {
		if got := ring.New[int](x.size).Size(); got != x.want {
			t.Errorf("New of %d: the size %d, not %d", x.size, got, x.want)
		}
		for call := range take {
			fillAndEmpty(t, numbers().make(x.size), row{size: x.want}, call)
		}
	}
	if a, b := ring.New[struct{}](9000).Size(), ring.New[string](-3).Size(); a != 4096 || b != 1 {
		t.Error("other types:", a, b)
	}
}

// fillAndEmpty fills a ring by one call, asks for one more by both, and takes all of it from both ends.
func fillAndEmpty(t *testing.T, g rig, w row, call int) {
	t.Helper()
	name := "a ring of " + strconv.Itoa(w.size)
	holds(t, name+", empty", g, w)
	for n := range w.size {
		w.do(call, n+1)
		if got := g.do(call, n+1); got != (answer{}) {
			t.Fatalf("%s: %d at %d", name, got.err, n)
		}
	}
	holds(t, name+", full", g, w)
	for range 3 {
		for _, more := range []int{put, push} {
			if got := g.do(more, 7777); got.err != api.ErrFull {
				t.Fatalf("%s: one more: %d", name, got.err)
			}
		}
	}
	holds(t, name+", full, asked for more", g, w)
	for k := range w.size {
		out := take + k%2
		if got, want := g.do(out, 0), w.do(out, 0); got != want {
			t.Fatalf("%s: %v, not %v", name, got, want)
		}
	}
	holds(t, name+", empty again", g, w)
}

// Every row of up to eight calls, so that what a call leaves is met by each other one.
func TestEveryShortRow(t *testing.T) { // P7.1
	m := numbers()
	for size := 1; size <= 3; size++ {
		for length := range 9 {
			for code := range 1 << (2 * length) {
				g, w := m.make(size), row{size: size}
				for k := range length {
					call := code >> (2 * k) % calls
					if got, want := g.do(call, k+1), w.do(call, k+1); got != want {
						t.Fatalf("size %d, row %o, call %d: %v, not %v", size, code, k, got, want)
					}
				}
				holds(t, "short", g, w)
			}
		}
	}
}

func TestLongRows(t *testing.T) { // P7.1
	for seed, size := range []int{1, 2, 3, 4, 5, 7, 8, 9, 16, 31, 64, 100, 4095, 4096} {
		c := chance(seed)
		g, w := numbers().make(size), row{size: size}
		most := 0
		for k, call := range anyRow(c, size, 20000+8*size) {
			if got, want := g.do(call, k+1), w.do(call, k+1); got != want {
				t.Fatalf("size %d, call %d: %v, not %v", size, k, got, want)
			}
			most = max(most, g.len())
			if k%(1+size) == 0 {
				holds(t, "long", g, w)
			}
		}
		if most != size {
			t.Errorf("size %d: never above %d", size, most)
		}
	}
}

func TestEmptyOnes(t *testing.T) { // P7.1
	for _, m := range makers() {
		for by := range 5 {
			g, w := turned(m, 3, 0, by)
			for _, call := range []int{take, pop, pop, take} {
				if got := g.do(call, 0); got != (answer{}) {
					t.Errorf("%s: %v of none", m.name, got)
				}
				holds(t, m.name, g, w)
			}
			g.do(push, 4)
			w.do(push, 4)
			holds(t, m.name, g, w)
		}
	}
}

func TestOrder(t *testing.T) { // P7.2
	for _, x := range []struct {
		in, out int
		turned  bool
	}{{put, take, false}, {put, pop, true}, {push, pop, false}, {push, take, true}} {
		for _, size := range []int{1, 2, 3, 8, 4096} {
			for _, count := range []int{1, size / 2, size - 1, size} {
				g, _ := turned(numbers(), size, 0, size/3)
				for round := range 5 {
					var want, got []int
					for n := range count {
						want = append(want, 1000*round+n+1)
						g.do(x.in, 1000*round+n+1)
					}
					if x.turned {
						slices.Reverse(want)
					}
					for range count {
						got = append(got, g.do(x.out, 0).n)
					}
					if !slices.Equal(got, want) || g.len() != 0 {
						t.Fatalf("in by %d, out by %d, size %d: %v, not %v", x.in, x.out, size, got, want)
					}
				}
			}
		}
	}
}

// What waits while the ring goes round and round comes out in the order in which it was put.
func TestOrderRoundAndRound(t *testing.T) { // P7.2
	for size := 1; size <= 9; size++ {
		for wait := range size {
			for _, x := range [][2]int{{put, take}, {push, pop}} {
				g := numbers().make(size)
				for n := range 10*size + wait {
					if got := g.do(x[0], n+1); got.err != api.OK || g.len() > size {
						t.Fatalf("size %d: %d with %d", size, got.err, g.len())
					}
					if n < wait {
						continue
					}
					if got := g.do(x[1], 0); got.n != n+1-wait || !got.ok {
						t.Fatalf("size %d, %d wait: %v, not %d", size, wait, got, n+1-wait)
					}
				}
			}
		}
	}
}

func TestNoneLostNoneTwice(t *testing.T) { // P7.2
	for seed := range 60 {
		c := chance(1000 + seed)
		size := 1 + c.IntN(20)
		g := numbers().make(size)
		var in, out []int
		for k, call := range anyRow(c, size, 2000) {
			got := g.do(call, k+1)
			switch {
			case call < take && got.err == api.OK:
				in = append(in, k+1)
			case call >= take && got.ok:
				out = append(out, got.n)
			}
			if g.len() > size || g.len() != len(in)-len(out) {
				t.Fatalf("size %d: %d are there", size, g.len())
			}
		}
		for got := g.do(take, 0); got.ok; got = g.do(take, 0) {
			out = append(out, got.n)
		}
		slices.Sort(out)
		if !slices.Equal(in, out) {
			t.Fatalf("size %d: in %v, out %v", size, in, out)
		}
	}
}

// Rings of all sorts side by side, step by step in one row, each of which answers as if it were alone.
func TestRingsOfDifferentThings(t *testing.T) { // P7.3
	for seed, size := range []int{1, 2, 3, 5, 8, 33} {
		w := row{size: size}
		var rigs []rig
		for _, m := range makers() {
			rigs = append(rigs, m.make(size))
		}
		for k, call := range anyRow(chance(2000+seed), size, 1500) {
			n := k%400 + 1
			want := w.do(call, n)
			for j, m := range makers() {
				if got := rigs[j].do(call, n); got != want {
					t.Fatalf("%s, size %d, call %d: %v, not %v", m.name, size, k, got, want)
				}
				if k%7 == 0 {
					holds(t, m.name, rigs[j], w)
				}
			}
		}
	}
}

// Things of no size are told by their number alone.
func TestRingOfNothings(t *testing.T) { // P7.3
	r, w := ring.New[struct{}](5), row{size: 5}
	for k, call := range anyRow(chance(3000), 5, 2000) {
		want := w.do(call, 1)
		var got answer
		switch call {
		case put:
			got.err = r.Put(struct{}{})
		case push:
			got.err = r.Push(struct{}{})
		case take:
			_, got.ok = r.Take()
		case pop:
			_, got.ok = r.Pop()
		}
		if got.err != want.err || got.ok != want.ok || r.Len() != len(w.list) {
			t.Fatalf("call %d: %v and %d, not %v and %d", k, got, r.Len(), want, len(w.list))
		}
	}
}

// A zero value that was put is as good as any other thing.
func TestZeroValuesAreThings(t *testing.T) { // P7.1
	r := ring.New[string](2)
	if r.Put("") != api.OK || r.Push("") != api.OK || r.Put("") != api.ErrFull || r.Len() != 2 {
		t.Error("Put, Push", r.Len())
	}
	if x, ok := r.At(1); x != "" || !ok {
		t.Error("At", x, ok)
	}
	if x, ok := r.Pop(); x != "" || !ok {
		t.Error("Pop", x, ok)
	}
	if x, ok := r.Take(); x != "" || !ok || r.Len() != 0 {
		t.Error("Take", x, ok, r.Len())
	}
	p := ring.New[*int](1)
	p.Put(nil)
	if x, ok := p.At(0); x != nil || !ok || p.Len() != 1 {
		t.Error("At of a nil", x, ok)
	}
}

// Two rings of one type have nothing to do with each other.
func TestTwoOfOneType(t *testing.T) { // P7.1
	a, w := turned(numbers(), 4, 3, 1)
	b, v := turned(numbers(), 4, 2, 3)
	b.do(pop, 0)
	v.do(pop, 0)
	b.do(push, 50)
	v.do(push, 50)
	holds(t, "one", a, w)
	holds(t, "the other", b, v)
}

func TestNilRing(t *testing.T) { // P7.1, W0, R7
	tryNil(t, 5)
	tryNil(t, "a")
	tryNil(t, cardOf(3))
	tryNil(t, []int{1})
	tryNil[any](t, 4)
}

func tryNil[T any](t *testing.T, x T) {
	t.Helper()
	var r *ring.Ring[T]
	isNone := func(y T, ok bool) bool { return !ok && isZero(y) }
	if r.Put(x) != api.ErrArg || r.Push(x) != api.ErrArg {
		t.Errorf("%T: Put, Push", x)
	}
	if !isNone(r.Take()) || !isNone(r.Pop()) {
		t.Errorf("%T: Take, Pop", x)
	}
	for _, i := range []int{math.MinInt, -1, 0, 1, 4096, math.MaxInt} {
		if !isNone(r.At(i)) {
			t.Errorf("%T: At %d", x, i)
		}
	}
	if r.Len() != 0 || r.Size() != 0 {
		t.Errorf("%T: Len, Size", x)
	}
	for range r.All() {
		t.Errorf("%T: All", x)
	}
	for range r.Back() {
		t.Errorf("%T: Back", x)
	}
}

func isZero(x any) bool {
	switch y := x.(type) {
	case nil:
		return true
	case int:
		return y == 0
	case string:
		return y == ""
	case card:
		return y == card{}
	case []int:
		return y == nil
	}
	return false
}

// One that New didn't make holds nothing, and nothing panics.
func TestRingWithoutNew(t *testing.T) { // W0
	var r ring.Ring[int]
	if r.Put(1) != api.ErrFull || r.Push(1) != api.ErrFull || r.Len() != 0 || r.Size() != 0 {
		t.Error("Put, Push, Len, Size")
	}
	_, taken := r.Take()
	_, popped := r.Pop()
	_, there := r.At(0)
	if taken || popped || there {
		t.Error("Take, Pop, At")
	}
	for range r.All() {
		t.Error("All")
	}
	for range r.Back() {
		t.Error("Back")
	}
}
