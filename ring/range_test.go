package ring_test

import (
	"slices"
	"testing"

	"callboy/ring"
)

// change is something that is done to a ring while it is gone through.
type change struct {
	name string
	do   func(r *ring.Ring[int])
}

func changes() []change {
	return []change{
		{"nothing", func(r *ring.Ring[int]) {}},
		{"Put", func(r *ring.Ring[int]) { r.Put(91) }},
		{"Push", func(r *ring.Ring[int]) { r.Push(92) }},
		{"Take", func(r *ring.Ring[int]) { r.Take() }},
		{"Pop", func(r *ring.Ring[int]) { r.Pop() }},
		{"Take, Put", func(r *ring.Ring[int]) { r.Take(); r.Put(93) }},
		{"Pop, Push", func(r *ring.Ring[int]) { r.Pop(); r.Push(94) }},
		{"Take, Push", func(r *ring.Ring[int]) { r.Take(); r.Push(95) }},
		{"Pop, Put", func(r *ring.Ring[int]) { r.Pop(); r.Put(96) }},
		{"Take all", func(r *ring.Ring[int]) {
			for r.Len() > 0 {
				r.Take()
			}
		}},
		{"others instead of all", func(r *ring.Ring[int]) {
			for r.Len() > 0 {
				r.Pop()
			}
			for k := range r.Size() {
				r.Push(60 + k)
			}
		}},
	}
}

// some is a ring with the things 1, 2 and so on, whose first one stands so many slots on.
func some(size, count, by int) *ring.Ring[int] {
	g, _ := turned(numbers(), size, count, by)
	return g.(rigOf[int]).r
}

func upTo(count int) []int {
	var list []int
	for n := range count {
		list = append(list, n+1)
	}
	return list
}

// now is what a ring has, asked by At alone.
func now(r *ring.Ring[int]) []int {
	var list []int
	for i := range r.Len() {
		x, _ := r.At(i)
		list = append(list, x)
	}
	return list
}

func allOf(r *ring.Ring[int]) []int {
	var list []int
	for _, x := range r.All() {
		list = append(list, x)
	}
	return list
}

// backOf is what Back gives, turned.
func backOf(r *ring.Ring[int]) []int {
	var list []int
	for x := range r.Back() {
		list = append(list, x)
	}
	slices.Reverse(list)
	return list
}

// None, one, some and all, with the first one at each slot.
func TestRangesFromAnywhere(t *testing.T) { // P7.1
	for size := 1; size <= 9; size++ {
		for count := range size + 1 {
			for by := range 2*size + 1 {
				g, w := turned(numbers(), size, count, by)
				holds(t, "turned", g, w)
			}
		}
	}
	for _, by := range []int{0, 1, 2048, 4095} {
		g, w := turned(numbers(), 4096, 4096, by)
		holds(t, "the greatest", g, w)
	}
}

func TestRangesLeftEarly(t *testing.T) { // P7.1, W0
	for size := 1; size <= 6; size++ {
		for by := range size {
			for leave := 1; leave <= size; leave++ {
				r, want := some(size, size, by), upTo(size)
				var all, back []int
				for i, x := range r.All() {
					if i != len(all) {
						t.Errorf("All: the number %d behind %d", i, len(all))
					}
					if all = append(all, x); len(all) == leave {
						break
					}
				}
				for x := range r.Back() {
					if back = append(back, x); len(back) == leave {
						break
					}
				}
				if !slices.Equal(all, want[:leave]) || !slices.Equal(now(r), want) {
					t.Errorf("All left behind %d: %v", leave, all)
				}
				slices.Reverse(back)
				if !slices.Equal(back, want[size-leave:]) {
					t.Errorf("Back left behind %d: %v, turned", leave, back)
				}
			}
		}
	}
}

func TestChangedWhileAllGives(t *testing.T) { // P7.1
	for _, c := range changes() {
		tryChange(t, "All, "+c.name, func(r *ring.Ring[int], when int) []int {
			var list []int
			for i, x := range r.All() {
				if i != len(list) {
					t.Errorf("%s: the number %d behind %d", c.name, i, len(list))
				}
				if i == when {
					c.do(r)
				}
				list = append(list, x)
			}
			return list
		})
	}
}

func TestChangedWhileBackGives(t *testing.T) { // P7.1
	for _, c := range changes() {
		tryChange(t, "Back, "+c.name, func(r *ring.Ring[int], when int) []int {
			var list []int
			for x := range r.Back() {
				if len(list) == when {
					c.do(r)
				}
				list = append(list, x)
			}
			slices.Reverse(list)
			return list
		})
	}
}

// tryChange goes through rings of all sorts and changes them behind any of their things: what is given is what was there at first, a second range gives what is there now.
func tryChange(t *testing.T, name string, gone func(r *ring.Ring[int], when int) []int) {
	t.Helper()
	for size := 1; size <= 5; size++ {
		for count := 1; count <= size; count++ {
			for by := range size {
				for when := range count {
					r := some(size, count, by)
					if got := gone(r, when); !slices.Equal(got, upTo(count)) {
						t.Fatalf("%s behind %d: %v, not %v", name, when, got, upTo(count))
					}
					if want := now(r); !slices.Equal(allOf(r), want) || !slices.Equal(backOf(r), want) {
						t.Fatalf("%s: then %v and %v, not %v", name, allOf(r), backOf(r), want)
					}
				}
			}
		}
	}
}

// The range begins when it is gone through, not when it is asked for; each new range begins anew.
func TestRangeBeginsWhenItIsGoneThrough(t *testing.T) { // P7.1
	for _, c := range changes() {
		r := some(4, 3, 2)
		all, back := r.All(), r.Back()
		for range 3 {
			c.do(r)
			var first, last []int
			for _, x := range all {
				first = append(first, x)
			}
			for x := range back {
				last = append(last, x)
			}
			slices.Reverse(last)
			if want := now(r); !slices.Equal(first, want) || !slices.Equal(last, want) {
				t.Errorf("%s: %v and %v, not %v", c.name, first, last, want)
			}
		}
	}
}

func TestRangesWithinRanges(t *testing.T) { // P7.1
	r := some(3, 3, 1)
	all := r.All()
	var list []int
	for i, x := range all {
		r.Take()
		r.Put(10 * x)
		for _, y := range all {
			list = append(list, i, y)
		}
		list = append(list, backOf(r)...)
		list = append(list, x)
	}
	want := []int{
		0, 2, 0, 3, 0, 10, 2, 3, 10, 1,
		1, 3, 1, 10, 1, 20, 3, 10, 20, 2,
		2, 10, 2, 20, 2, 30, 10, 20, 30, 3,
	}
	if !slices.Equal(list, want) {
		t.Errorf("%v, not %v", list, want)
	}
}

// A range that the one who goes through it panics out of leaves the ring as it was.
func TestRangeLeftByPanic(t *testing.T) { // P7.1
	r := some(3, 3, 2)
	func() {
		defer func() { recover() }()
		for range r.All() {
			panic("out")
		}
	}()
	if !slices.Equal(allOf(r), upTo(3)) || !slices.Equal(backOf(r), upTo(3)) {
		t.Error(allOf(r), backOf(r))
	}
}
