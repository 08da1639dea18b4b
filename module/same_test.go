package module_test

import (
	"testing"

	"callboy/api"
	"callboy/module"
)

func checkSame(t *testing.T, name string, a, b api.Module, want bool) {
	t.Helper()
	if module.Same(a, b) != want || module.Same(b, a) != want {
		t.Errorf("%s: Same = %t, and %t the other way round", name, module.Same(a, b), module.Same(b, a))
	}
}

func TestSameAsItself(t *testing.T) { // P5.1
	for _, m := range append(samples(), strange()...) {
		checkSame(t, "itself", m, m, true)
		checkSame(t, "its copy", m, clone(m), true)
	}
}

func TestSamplesAreUnlike(t *testing.T) { // P5.1
	list := samples()
	for k, a := range list {
		for j, b := range list {
			checkSame(t, "samples", a, b, k == j)
		}
	}
}

// Any two of these differ: a field that isn't looked at would make some of them the same.
func TestOneFieldAlone(t *testing.T) { // P5.1
	edits := append(append(others(), wrong()...), tooMuch()...)
	for _, e := range edits {
		m := trio()
		e.do(&m)
		checkSame(t, e.name, trio(), m, false)
		checkSame(t, e.name, m, clone(m), true)
	}
}

// fields are all that a module holds, each changed by itself.
func fields() []edit {
	return []edit{
		{"Params", func(m *api.Module) { m.Actors[1].Params[1] = api.TBool }},
		{"Regs", func(m *api.Module) { m.Actors[1].Regs[1] = api.TBool }},
		{"Messages", func(m *api.Module) { m.Actors[1].Messages[0] = api.TBool }},
		{"Op", func(m *api.Module) { m.Actors[1].Code[2].Op = api.OpDrop }},
		{"A", func(m *api.Module) { m.Actors[1].Code[0].A = 0 }},
		{"Tag", func(m *api.Module) { m.Actors[1].Tables[0].Clauses[1].Tag = 1 }},
		{"To", func(m *api.Module) { m.Actors[1].Tables[0].Clauses[1].To = 2 }},
		{"Timeout", func(m *api.Module) { m.Actors[1].Tables[0].Timeout = 2 }},
	}
}

func TestEveryFieldCounts(t *testing.T) { // P5.1
	for k, one := range fields() {
		for j, two := range fields() {
			a, b := trio(), trio()
			one.do(&a)
			two.do(&b)
			checkSame(t, one.name+" and "+two.name, a, b, k == j)
		}
	}
}

func TestEmptyListsAreTheSame(t *testing.T) { // P5.1, R4
	checkSame(t, "no actors", api.Module{}, api.Module{Actors: []api.Actor{}}, true)
	checkSame(t, "no actors and one", api.Module{}, api.Module{Actors: make([]api.Actor, 1)}, false)
	for _, e := range []edit{
		{"Params", func(m *api.Module) { m.Actors[0].Params = []api.Type{} }},
		{"Regs", func(m *api.Module) { m.Actors[0].Regs = []api.Type{} }},
		{"Messages", func(m *api.Module) { m.Actors[2].Messages = []api.Type{} }},
		{"Tables", func(m *api.Module) { m.Actors[2].Tables = make([]api.Table, 0, 5) }},
	} {
		m := trio()
		e.do(&m)
		checkSame(t, e.name, m, trio(), true)
	}
	a, b := trio(), trio()
	a.Actors[2].Code, b.Actors[2].Code = nil, []api.Instr{}
	checkSame(t, "Code", a, b, true)
	a.Actors[1].Tables[1].Clauses, b.Actors[1].Tables[1].Clauses = nil, []api.Clause{}
	checkSame(t, "Clauses", a, b, true)
	checkSame(t, "Clauses and none", a, trio(), false)
}
