package heap_test

import (
	"math"
	"slices"
	"testing"

	"callboy/heap"
)

// some is a heap with these ticks; a thing's number is its ticket.
func some(ticks ...int64) *heap.Heap[int] {
	g, _ := filled(numbers(), ticks...)
	return g.(rigOf[int]).h
}

func allOf(h *heap.Heap[int]) []thing {
	return rigOf[int]{kind[int]{same, same}, h}.all()
}

// popped is all that Pop hands out, which empties the heap.
func popped(h *heap.Heap[int]) []thing {
	var list []thing
	for x, tick, ok := h.Pop(math.MaxInt64); ok; x, tick, ok = h.Pop(math.MaxInt64) {
		list = append(list, thing{tick: tick, n: x})
	}
	return list
}

// None, one and many, of which some were cancelled or came out.
func TestAllIsWhatPopHandsOut(t *testing.T) { // P8.1, P8.2
	for _, o := range orders() {
		for _, size := range []int{0, 1, 2, 3, 5, 12, 13, 50, 300} {
			for every := 1; every <= 4; every++ {
				h := heap.New[int]()
				for k := range size {
					h.Put(o.tick(k), k+1)
				}
				for ticket := every; ticket <= size && every < 4; ticket += every {
					h.Cancel(ticket)
				}
				if every == 3 {
					h.Pop(math.MaxInt64)
				}
				count, all := h.Len(), allOf(h)
				if again := allOf(h); !slices.Equal(again, all) || h.Len() != count {
					t.Fatalf("%s: %v, then %v", o.name, all, again)
				}
				if out := popped(h); !slices.Equal(all, out) || len(all) != count {
					t.Fatalf("%s: All gives %v, Pop %v, of %d", o.name, all, out, count)
				}
			}
		}
	}
}

func TestRangeLeftEarly(t *testing.T) { // P8.1, W0
	h := some(5, 1, 4, 1, -3, 9)
	h.Cancel(3)
	want := []thing{{tick: -3, n: 5}, {tick: 1, n: 2}, {tick: 1, n: 4}, {tick: 5, n: 1}, {tick: 9, n: 6}}
	for leave := 1; leave <= len(want); leave++ {
		var list []thing
		for tick, x := range h.All() {
			if list = append(list, thing{tick: tick, n: x}); len(list) == leave {
				break
			}
		}
		if !slices.Equal(list, want[:leave]) || !slices.Equal(allOf(h), want) || h.Len() != len(want) {
			t.Errorf("left behind %d: %v, then %v", leave, list, allOf(h))
		}
	}
	if out := popped(h); !slices.Equal(out, want) {
		t.Error("popped:", out)
	}
}

// change is something that is done to a heap while it is gone through.
type change struct {
	name string
	do   func(h *heap.Heap[int])
}

func changes() []change {
	return []change{
		{"nothing", func(h *heap.Heap[int]) {}},
		{"Put ahead of all", func(h *heap.Heap[int]) { h.Put(math.MinInt64, 91) }},
		{"Put among them", func(h *heap.Heap[int]) { h.Put(2, 92) }},
		{"Put behind all", func(h *heap.Heap[int]) { h.Put(math.MaxInt64, 93) }},
		{"Pop", func(h *heap.Heap[int]) { h.Pop(math.MaxInt64) }},
		{"Cancel of the first ticket", func(h *heap.Heap[int]) { h.Cancel(1) }},
		{"Cancel of another ticket", func(h *heap.Heap[int]) { h.Cancel(3) }},
		{"Pop, Put", func(h *heap.Heap[int]) { h.Pop(math.MaxInt64); h.Put(1, 94) }},
		{"Cancel, Put", func(h *heap.Heap[int]) { h.Cancel(2); h.Put(9, 95) }},
		{"Pop all", func(h *heap.Heap[int]) { popped(h) }},
		{"Cancel all", func(h *heap.Heap[int]) {
			for ticket := range 60 {
				h.Cancel(ticket)
			}
		}},
		{"others instead of all", func(h *heap.Heap[int]) {
			for k := range popped(h) {
				h.Put(int64(-k), 60+k)
			}
		}},
		{"many more", func(h *heap.Heap[int]) {
			for k := range 20 {
				h.Put(int64(k%3), 70+k)
			}
		}},
	}
}

// A heap that is changed behind any of its things: what is given is what was there when the range began, a second range gives what is there now.
func TestChangedWhileAllGives(t *testing.T) { // P8.1
	rows := [][]int64{{3}, {3, 1}, {1, 3}, {2, 2}, {3, 1, 2}, {1, 2, 3, 4}, {4, 3, 2, 1, 0}, {2, 2, 1, 1, 3, 3, 2}}
	for _, c := range changes() {
		for _, ticks := range rows {
			for when := range ticks {
				h := some(ticks...)
				want := allOf(h)
				var list []thing
				for tick, x := range h.All() {
					if len(list) == when {
						c.do(h)
					}
					list = append(list, thing{tick: tick, n: x})
				}
				if !slices.Equal(list, want) {
					t.Fatalf("%s behind %d of %v: %v, not %v", c.name, when, ticks, list, want)
				}
				all := allOf(h)
				if out := popped(h); !slices.Equal(all, out) {
					t.Fatalf("%s: then %v, not %v", c.name, all, out)
				}
			}
		}
	}
}

// The range begins when it is gone through, not when it is asked for; each new range begins anew.
func TestRangeBeginsWhenItIsGoneThrough(t *testing.T) { // P8.1
	for _, c := range changes() {
		h, twin := some(4, 2, 3, 2), some(4, 2, 3, 2)
		all := h.All()
		for range 3 {
			c.do(h)
			c.do(twin)
			var list []thing
			for tick, x := range all {
				list = append(list, thing{tick: tick, n: x})
			}
			if want := allOf(twin); !slices.Equal(list, want) {
				t.Errorf("%s: %v, not %v", c.name, list, want)
			}
		}
	}
}

func TestRangesWithinRanges(t *testing.T) { // P8.1
	h := some(2, 1)
	all := h.All()
	var list []int
	for tick, x := range all {
		h.Pop(1)
		h.Put(tick, 10*x)
		for within, y := range all {
			list = append(list, int(within), y)
		}
		list = append(list, x)
	}
	want := []int{
		1, 20, 2, 1, 2,
		2, 1, 2, 10, 1,
	}
	if !slices.Equal(list, want) {
		t.Errorf("%v, not %v", list, want)
	}
}

// A range that the one who goes through it panics out of leaves the heap as it was.
func TestRangeLeftByPanic(t *testing.T) { // P8.1
	h := some(3, 1, 2)
	want := allOf(h)
	func() {
		defer func() { recover() }()
		for range h.All() {
			panic("out")
		}
	}()
	if got := allOf(h); !slices.Equal(got, want) || !slices.Equal(popped(h), want) {
		t.Errorf("%v, not %v", got, want)
	}
}
