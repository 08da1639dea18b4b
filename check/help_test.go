package check_test

import (
	"slices"
	"strconv"
	"strings"
	"testing"

	"callboy/api"
	"callboy/check"
	"callboy/instr"
)

// code reads instructions as the chapter writes them: push 1, add, halt. A number and an x ahead of one repeat it.
func code(text string) []api.Instr {
	var list []api.Instr
	for _, one := range strings.Split(text, ", ") {
		words, times := strings.Fields(one), 1
		if n, ok := strings.CutSuffix(words[0], "x"); ok {
			times, _ = strconv.Atoi(n)
			words = words[1:]
		}
		op, ok := instr.Parse(words[0])
		if !ok {
			panic("no instruction: " + one)
		}
		i := api.Instr{Op: op}
		if len(words) > 1 {
			i.A, _ = strconv.ParseInt(words[1], 10, 64)
		}
		list = append(list, slices.Repeat([]api.Instr{i}, times)...)
	}
	return list
}

// types reads types of one letter each: i, b, and a digit for the processes of that actor.
func types(text string) []api.Type {
	var list []api.Type
	for _, r := range text {
		switch r {
		case 'i':
			list = append(list, 1)
		case 'b':
			list = append(list, 2)
		default:
			list = append(list, api.Type(16+r-'0'))
		}
	}
	return list
}

// letters is the way back.
func letters(list []api.Type) string {
	text := ""
	for _, t := range list {
		switch t {
		case 1:
			text += "i"
		case 2:
			text += "b"
		default:
			text += strconv.Itoa(int(t) - 16)
		}
	}
	return text
}

// table reads a table: tag>to for a clause, and a number alone for the Timeout.
func table(text string) api.Table {
	t := api.Table{Timeout: -1}
	for _, one := range strings.Fields(text) {
		tag, to, ok := strings.Cut(one, ">")
		if !ok {
			t.Timeout, _ = strconv.Atoi(one)
			continue
		}
		var c api.Clause
		c.Tag, _ = strconv.Atoi(tag)
		c.To, _ = strconv.Atoi(to)
		t.Clauses = append(t.Clauses, c)
	}
	return t
}

// actor makes one of its Params, its Regs behind these, its Messages, its Code, and its Tables.
func actor(params, regs, messages, text string, tables ...string) api.Actor {
	a := api.Actor{Params: types(params), Regs: types(params + regs), Messages: types(messages), Code: code(text)}
	for _, one := range tables {
		a.Tables = append(a.Tables, table(one))
	}
	return a
}

func of(actors ...api.Actor) api.Module { return api.Module{Actors: actors} }

// lone is a module of one actor that has nothing but its code.
func lone(text string) api.Module { return of(actor("", "", "", text)) }

// fault is one of the actor 0.
func fault(err api.Errno, at int) api.Fault { return api.Fault{Err: err, At: at} }

// trial is a module, and what Check makes of it.
type trial struct {
	name string
	m    api.Module
	want api.Fault
}

func tryAll(t *testing.T, trials []trial) {
	t.Helper()
	for _, x := range trials {
		if got := check.Check(x.m); got != x.want {
			t.Errorf("%s: %v, not %v", x.name, got, x.want)
		}
		for k := -1; k <= len(x.m.Actors); k++ {
			shapes, has := check.Shapes(x.m, k)
			size := 0
			if x.want == (api.Fault{}) && k >= 0 && k < len(x.m.Actors) {
				size = len(x.m.Actors[k].Code)
			}
			if len(shapes) != size || len(has) != size {
				t.Errorf("%s: %d shapes and %d truths of %d places of the actor %d", x.name, len(shapes), len(has), size, k)
			}
		}
	}
}

// drawn tells all shapes of an actor as letters, with a . for a place that has none.
func drawn(m api.Module, actor int) string {
	shapes, has := check.Shapes(m, actor)
	var list []string
	for at, s := range shapes {
		if !has[at] {
			list = append(list, "."+letters(s))
		} else {
			list = append(list, letters(s))
		}
	}
	return strings.Join(list, ",")
}

// clone shares no memory with m.
func clone(m api.Module) api.Module {
	m.Actors = slices.Clone(m.Actors)
	for k := range m.Actors {
		a := &m.Actors[k]
		a.Params, a.Regs, a.Messages = slices.Clone(a.Params), slices.Clone(a.Regs), slices.Clone(a.Messages)
		a.Code, a.Tables = slices.Clone(a.Code), slices.Clone(a.Tables)
		for j := range a.Tables {
			a.Tables[j].Clauses = slices.Clone(a.Tables[j].Clauses)
		}
	}
	return m
}

// dice throws numbers that hang on the seed alone.
type dice uint64

func (d *dice) below(n int) int {
	*d = *d*6364136223846793005 + 1442695040888963407
	return int(uint64(*d) >> 33 % uint64(n))
}

// instr throws a right instruction; most of its numbers are small, and its places within the code or just past it.
func (d *dice) instr(size int) api.Instr {
	for {
		i := api.Instr{Op: d.below(27)}
		switch i.Op {
		case api.OpJump, api.OpUnless:
			i.A = int64(d.below(size + 1))
		default:
			if instr.Has(i.Op) {
				i.A = int64(d.below(3 + d.below(6)))
			}
		}
		if instr.Right(i) {
			return i
		}
	}
}

func (d *dice) kind(actors int) api.Type {
	switch n := d.below(4); n {
	case 0, 1:
		return api.Type(1 + n)
	}
	return api.Type(16 + d.below(actors))
}

func (d *dice) kinds(most, actors int) []api.Type {
	l := make([]api.Type, d.below(most+1))
	for k := range l {
		l[k] = d.kind(actors)
	}
	return l
}

func (d *dice) table(size int) api.Table {
	t := api.Table{Clauses: make([]api.Clause, d.below(4)), Timeout: -1}
	for k := range t.Clauses {
		t.Clauses[k] = api.Clause{Tag: d.below(4), To: d.below(size + 1)}
	}
	if d.below(2) == 0 {
		t.Timeout = d.below(size + 1)
	}
	return t
}

// bare throws a module whose actors put something on their stacks and halt.
func (d *dice) bare() api.Module {
	actors := 1 + d.below(4)
	m := api.Module{Actors: make([]api.Actor, actors)}
	for k := range m.Actors {
		a := &m.Actors[k]
		a.Regs, a.Messages = d.kinds(5, actors), d.kinds(5, actors)
		if k > 0 {
			a.Params = slices.Clone(a.Regs[:d.below(1+min(4, len(a.Regs)))])
		}
		for range 16 - d.below(1+d.below(17)) {
			a.Code = append(a.Code, api.Instr{Op: []int{api.OpPush, api.OpTrue, api.OpSelf}[d.below(3)]})
		}
		a.Code = append(a.Code, make([]api.Instr, 1+d.below(1+d.below(20)))...)
		a.Tables = make([]api.Table, d.below(4))
		for j := range a.Tables {
			a.Tables[j] = d.table(len(a.Code))
		}
	}
	return m
}

// change makes another right module of m, in one thing; mostly at a place that is reached.
func (d *dice) change(m api.Module) api.Module {
	m = clone(m)
	k := d.below(len(m.Actors))
	a := &m.Actors[k]
	shapes, _, _ := model(m, k)
	at := d.below(len(a.Code))
	for _, has := shapes[at]; !has && d.below(8) > 0; _, has = shapes[at] {
		at = d.below(len(a.Code))
	}
	switch n := d.below(12); {
	case n == 0 && len(a.Messages) > 0:
		a.Messages[d.below(len(a.Messages))] = d.kind(len(m.Actors))
	case n == 1 && len(a.Regs) > len(a.Params):
		a.Regs[len(a.Params)+d.below(len(a.Regs)-len(a.Params))] = d.kind(len(m.Actors))
	case n == 2 && len(a.Tables) > 0:
		a.Tables[d.below(len(a.Tables))] = d.table(len(a.Code))
	default:
		a.Code[at] = d.instr(len(a.Code))
	}
	return m
}
