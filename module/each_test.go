package module_test

import (
	"slices"
	"testing"

	"callboy/api"
	"callboy/module"
)

// given is what Each gives at one time.
type given struct {
	at [2]int
	i  api.Instr
}

func all(m api.Module) []given {
	var list []given
	for k := range m.Actors {
		for at, i := range m.Actors[k].Code {
			list = append(list, given{[2]int{k, at}, i})
		}
	}
	return list
}

// first leaves Each behind so many.
func first(m api.Module, size int) []given {
	var list []given
	for at, i := range module.Each(m) {
		list = append(list, given{at, i})
		if len(list) == size {
			break
		}
	}
	return list
}

// strange are modules that aren't right, but have instructions, or have none.
func strange() []api.Module {
	bare := trio()
	bare.Actors[0].Code, bare.Actors[1].Code = nil, []api.Instr{}
	none := trio()
	none.Actors[2].Code = nil
	long := trio()
	long.Actors[1].Code = slices.Repeat([]api.Instr{{Op: 99, A: 5}, {Op: -1, A: least}}, 1000)
	return []api.Module{
		{}, {Actors: []api.Actor{}}, {Actors: make([]api.Actor, 20)}, bare, none, long,
		{Actors: slices.Repeat(trio().Actors, 40)},
	}
}

func TestEachWrittenOut(t *testing.T) { // P5.3
	want := []given{
		{[2]int{0, 0}, api.Instr{Op: api.OpSpawn, A: 2}},
		{[2]int{0, 1}, api.Instr{Op: api.OpDrop}},
		{[2]int{0, 2}, api.Instr{Op: api.OpHalt}},
		{[2]int{1, 0}, api.Instr{Op: api.OpLoad, A: 1}},
		{[2]int{1, 1}, api.Instr{Op: api.OpRecv}},
		{[2]int{1, 2}, api.Instr{Op: api.OpOut}},
		{[2]int{1, 3}, api.Instr{Op: api.OpHalt}},
		{[2]int{2, 0}, api.Instr{Op: api.OpHalt}},
	}
	if got := first(trio(), -1); !slices.Equal(got, want) {
		t.Errorf("%v", got)
	}
}

func TestEachGivesAll(t *testing.T) { // P5.1, P5.3
	for _, m := range append(samples(), strange()...) {
		if got := first(m, -1); !slices.Equal(got, all(m)) {
			t.Errorf("%v, not %v", got, all(m))
		}
	}
}

func TestEachIsLeftEarly(t *testing.T) { // P5.3
	for _, m := range append(samples(), strange()...) {
		want := all(m)
		sizes := []int{1, 2, 3, len(want) / 2, len(want) - 1, len(want)}
		if len(want) < 100 {
			for size := range want {
				sizes = append(sizes, size+1)
			}
		}
		for _, size := range sizes {
			if size < 1 || size > len(want) {
				continue
			}
			if got := first(m, size); !slices.Equal(got, want[:size]) {
				t.Errorf("left behind %d: %v", size, got)
			}
		}
	}
}

// Who says once that it is enough is never asked again, not even about the next actor.
func TestEachNeverAsksAgain(t *testing.T) { // P5.3
	for size := 1; size <= 8; size++ {
		asked := 0
		module.Each(trio())(func([2]int, api.Instr) bool {
			asked++
			return asked < size
		})
		if asked != size {
			t.Errorf("asked %d times, not %d", asked, size)
		}
	}
}

func TestEachBeginsAnew(t *testing.T) { // P5.3, R6
	m := trio()
	each, want := module.Each(m), all(m)
	for range each {
		break
	}
	for range 2 {
		var got []given
		for at, i := range each {
			got = append(got, given{at, i})
			inner := 0
			for range each {
				inner++
			}
			if inner != len(want) {
				t.Errorf("%d within", inner)
			}
		}
		if !slices.Equal(got, want) {
			t.Errorf("%v", got)
		}
	}
}

func TestEachKeepsWhatWasHandedIn(t *testing.T) { // R4, R6
	m := trio()
	each, want := module.Each(m), all(m)
	m.Actors[1].Code[2] = api.Instr{Op: api.OpDup}
	m.Actors[0].Code = nil
	m.Actors[2] = api.Actor{}
	var got []given
	for at, i := range each {
		got = append(got, given{at, i})
	}
	if !slices.Equal(got, want) {
		t.Errorf("%v", got)
	}
}

func TestEachChangesNothing(t *testing.T) { // R4
	m := trio()
	for range module.Each(m) {
	}
	if !module.Same(m, trio()) {
		t.Errorf("%v", m)
	}
}
