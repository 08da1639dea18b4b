package check_test

import (
	"math"
	"slices"
	"testing"

	"callboy/api"
	"callboy/check"
	"callboy/instr"
	"callboy/module"
)

// met is an instruction, and the error that it has somewhere; OK: it stands at a reached place of a well module.
type met struct {
	op  int
	err api.Errno
}

// expected are all errors that each instruction can have, by the chapter's table.
func expected() map[met]bool {
	all := map[met]bool{}
	add := func(err api.Errno, ops ...int) {
		for _, op := range ops {
			all[met{op, err}] = true
		}
	}
	for op := range 27 {
		add(api.OK, op)
		if op != api.OpHalt && op != api.OpExit {
			add(api.ErrJump, op)
			add(api.ErrType, op)
		}
		if op != api.OpHalt && op != api.OpJump {
			add(api.ErrStack, op)
		}
	}
	add(api.ErrType, api.OpExit)
	add(api.ErrIndex, api.OpLoad, api.OpStore, api.OpSpawn, api.OpSend, api.OpRecv)
	return all
}

// Every change of a well module has the fault and the shapes that the model has; among them each instruction meets each of its errors.
func TestAsTheModel(t *testing.T) { // P6.1
	seen := map[met]bool{}
	strolls(1, 400, 120, func(m api.Module, f api.Fault) {
		if err := module.Right(m); err != api.OK {
			t.Fatalf("not right: %v", m)
		}
		if got := check.Check(m); got != f {
			t.Errorf("%v: %v, not %v", m, got, f)
		}
		if f.Err != api.OK {
			seen[met{m.Actors[f.Actor].Code[f.At].Op, f.Err}] = true
			return
		}
		for k, a := range m.Actors {
			if got, want := drawn(m, k), modelDrawn(m, k); got != want {
				t.Errorf("%v: %s, not %s", m, got, want)
			}
			shapes, _, _ := model(m, k)
			for at := range shapes {
				seen[met{a.Code[at].Op, api.OK}] = true
			}
		}
	})
	for x := range expected() {
		if !seen[x] {
			t.Errorf("%s never met %d", instr.Name(x.op), x.err)
		}
	}
	for x := range seen {
		if !expected()[x] {
			t.Errorf("%s met %d", instr.Name(x.op), x.err)
		}
	}
}

// leads holds each place that has a shape against where it goes on, and with what.
func leads(t *testing.T, m api.Module) {
	t.Helper()
	for k := range m.Actors {
		shapes, has := check.Shapes(m, k)
		if len(has) == 0 || !has[0] || len(shapes[0]) != 0 {
			t.Fatalf("%v: the place 0 has %v", m, shapes)
		}
		for at, shape := range shapes {
			if !has[at] {
				continue
			}
			if len(shape) > 16 {
				t.Errorf("%v: %d types at %d", m, len(shape), at)
			}
			for _, w := range after(m, k, at, letters(shape)) {
				if w.err != api.OK || w.to >= len(shapes) || !has[w.to] || letters(shapes[w.to]) != w.shape {
					t.Errorf("%v: %d of the actor %d leads to %v", m, at, k, w)
				}
			}
		}
	}
}

func TestLeadsToItsShapesAlone(t *testing.T) { // P6.2
	well, deep := 0, 0
	strolls(2, 50, 100, func(m api.Module, _ api.Fault) {
		if check.Check(m).Err != api.OK {
			return
		}
		leads(t, m)
		well++
		for k := range m.Actors {
			shapes, _ := check.Shapes(m, k)
			for _, s := range shapes {
				deep = max(deep, len(s))
			}
		}
	})
	if well < 1000 || deep < 16 {
		t.Errorf("%d well modules, shapes of %d at most", well, deep)
	}
}

// unreached are the places of a well module that have no shape, as actor and place.
func unreached(m api.Module) [][2]int {
	var list [][2]int
	for k := range m.Actors {
		_, has := check.Shapes(m, k)
		for at, is := range has {
			if !is {
				list = append(list, [2]int{k, at})
			}
		}
	}
	return list
}

func allDrawn(m api.Module) []string {
	var list []string
	for k := range m.Actors {
		list = append(list, drawn(m, k))
	}
	return list
}

func TestNeverReached(t *testing.T) { // P6.3
	m := of(
		actor("", "i", "i", "jump 2, halt, true, unless 6, jump 8, halt, recv 0, halt, halt, halt", "0>7"),
		actor("", "", "", "halt, halt"),
	)
	places := unreached(m)
	if want := [][2]int{{0, 1}, {0, 5}, {0, 9}, {1, 1}}; !slices.Equal(places, want) {
		t.Fatalf("%v, not %v", places, want)
	}
	want := allDrawn(m)
	for _, at := range places {
		for op := range 27 {
			for _, a := range []int64{0, 1, 2, 7, 9, 10, 15, 199, -1, math.MaxInt64} {
				n := clone(m)
				n.Actors[at[0]].Code[at[1]] = api.Instr{Op: op, A: a}
				if module.Right(n) != api.OK {
					continue
				}
				if f := check.Check(n); f != (api.Fault{}) {
					t.Errorf("%v at %v: %v", n.Actors[at[0]].Code[at[1]], at, f)
				}
				if got := allDrawn(n); !slices.Equal(got, want) {
					t.Errorf("%v at %v: %v, not %v", n.Actors[at[0]].Code[at[1]], at, got, want)
				}
			}
		}
	}
}

func TestNeverReachedOfMany(t *testing.T) { // P6.3
	d, tried := dice(5), 0
	strolls(3, 50, 100, func(m api.Module, _ api.Fault) {
		if check.Check(m).Err != api.OK {
			return
		}
		places, n := unreached(m), clone(m)
		for _, at := range places {
			code := n.Actors[at[0]].Code
			code[at[1]] = d.instr(len(code))
			tried++
		}
		if f := check.Check(n); f != (api.Fault{}) {
			t.Errorf("%v: %v", n, f)
		}
		if got, want := allDrawn(n), allDrawn(m); !slices.Equal(got, want) {
			t.Errorf("%v: %v, not %v", n, got, want)
		}
	})
	if tried < 1000 {
		t.Errorf("%d places", tried)
	}
}

func TestShapesOfEachActor(t *testing.T) { // P6.1
	m := of(
		actor("", "1", "i", "self, push 3, spawn 1, dup, store 0, link, load 0, push 5, send 0, push 100, recv 0, out, halt", "0>11 12"),
		actor("0i", "ib", "ib", "recv 0, load 1, add, store 2, load 0, load 2, send 0, jump 0, dup", "0>1"),
		actor("", "", "", "halt"),
	)
	want := []string{",0,0i,1,11,1,,1,1i,,i,i,", ",i,ii,i,,0,0i,,.", ""}
	if got := allDrawn(m); !slices.Equal(got, want) {
		t.Errorf("%v, not %v", got, want)
	}
	if f := check.Check(m); f != (api.Fault{}) {
		t.Errorf("%v", f)
	}
}

func TestNoSuchActor(t *testing.T) { // P6.1, R5
	m := of(actor("", "", "", "halt"), actor("", "", "", "push 1, out, halt"))
	for _, k := range []int{math.MinInt, -2, -1, 2, 3, 7, 8, 1 << 32, math.MaxInt} {
		if shapes, has := check.Shapes(m, k); len(shapes) != 0 || len(has) != 0 {
			t.Errorf("the actor %d: %v %v", k, shapes, has)
		}
	}
}

// A fault of one actor leaves the others without shapes too.
func TestShapesOfOneThatIsNotWell(t *testing.T) { // P6.1, R2
	well, ill := actor("", "", "", "push 1, out, halt"), actor("", "", "", "push 1, add, halt")
	for _, m := range []api.Module{of(ill), of(well, ill), of(ill, well), of(well, well, ill)} {
		for k := range m.Actors {
			if shapes, has := check.Shapes(m, k); len(shapes) != 0 || len(has) != 0 {
				t.Errorf("the actor %d: %v %v", k, shapes, has)
			}
		}
	}
}

func TestShapesShareNoMemory(t *testing.T) { // R4
	m := of(actor("", "ib", "ib", "load 0, load 1, dup, unless 6, drop, jump 7, drop, true, push 9, recv 0, drop, jump 13, drop, halt", "0>10 1>12 13"))
	want := drawn(m, 0)
	if want == "" {
		t.Fatal("not well")
	}
	shapes, has := check.Shapes(m, 0)
	for at := range shapes {
		before := make([][]api.Type, len(shapes))
		for k, s := range shapes {
			before[k] = slices.Clone(s)
		}
		// What stands there, and what would be written by an append.
		whole := shapes[at][:cap(shapes[at])]
		for k := range whole {
			whole[k] = 99
		}
		for k, s := range shapes {
			if k != at && !slices.Equal(s, before[k]) {
				t.Errorf("%d shares memory with %d", at, k)
			}
		}
	}
	for at := range has {
		has[at] = !has[at]
	}
	if got := drawn(m, 0); got != want {
		t.Errorf("%s, not %s", got, want)
	}
}

func TestLeavesTheModule(t *testing.T) { // R4, R6
	strolls(4, 10, 100, func(m api.Module, _ api.Fault) {
		kept := clone(m)
		f, shapes := check.Check(m), allDrawn(m)
		if !module.Same(m, kept) {
			t.Fatalf("%v was %v", m, kept)
		}
		if check.Check(m) != f || !slices.Equal(allDrawn(m), shapes) {
			t.Errorf("%v: another answer", m)
		}
	})
}

// An empty list is as good as one that isn't there.
func TestEmptyLists(t *testing.T) { // R4
	m := lone("halt")
	n := api.Module{Actors: []api.Actor{{
		Params: []api.Type{}, Regs: []api.Type{}, Messages: []api.Type{}, Code: code("halt"), Tables: []api.Table{},
	}}}
	if check.Check(m) != check.Check(n) || len(unreached(m)) != len(unreached(n)) {
		t.Errorf("%v, %v", check.Check(m), check.Check(n))
	}
}
