package check_test

import (
	"strings"

	"callboy/api"
	"callboy/instr"
)

// way is where an instruction goes on, and with what (as letters); or the error that it has there.
type way struct {
	to    int
	shape string
	err   api.Errno
}

func wrongWay(err api.Errno) []way { return []way{{err: err}} }

// trades are the instructions that go on to the next place, and hang on nothing else: what each takes and puts.
var trades = map[string]string{
	"push": ">i", "true": ">b", "false": ">b",
	"add": "ii>i", "sub": "ii>i", "mul": "ii>i", "div": "ii>i", "rem": "ii>i",
	"less": "ii>b", "eq": "ii>b", "not": "b>b", "and": "bb>b", "or": "bb>b", "out": "i>",
}

func trade(op int) (takes, puts string, ok bool) {
	row, ok := trades[instr.Name(op)]
	takes, puts, _ = strings.Cut(row, ">")
	return takes, puts, ok
}

// swap tells the shape that has takes no longer on its top, and puts instead.
func swap(shape, takes, puts string) (string, api.Errno) {
	if len(shape) < len(takes) {
		return "", api.ErrStack
	}
	rest, ok := strings.CutSuffix(shape, takes)
	if !ok {
		return "", api.ErrType
	}
	if len(rest)+len(puts) > 16 {
		return "", api.ErrStack
	}
	return rest + puts, api.OK
}

func isPid(letter byte) bool { return letter >= '0' && letter <= '7' }

// after tells all ways on of the instruction at a place that has this shape, in order, up to the first error. It is written by itself, of the chapter's table.
func after(m api.Module, own, at int, shape string) []way {
	a := m.Actors[own]
	i := a.Code[at]
	n := int(i.A)
	takes, puts, plain := trade(i.Op)
	targets := []int{at + 1}
	switch name := instr.Name(i.Op); {
	case plain:
	case name == "halt":
		return nil
	case name == "jump":
		targets = []int{n}
	case name == "unless":
		takes, targets = "b", []int{n, at + 1}
	case name == "load" || name == "store":
		if n >= len(a.Regs) {
			return wrongWay(api.ErrIndex)
		}
		if name == "load" {
			puts = letters(a.Regs[n : n+1])
		} else {
			takes = letters(a.Regs[n : n+1])
		}
	case name == "self":
		puts = string(rune('0' + own))
	case name == "spawn":
		if n >= len(m.Actors) {
			return wrongWay(api.ErrIndex)
		}
		takes, puts = letters(m.Actors[n].Params), string(rune('0'+n))
	case name == "exit":
		takes, targets = "i", nil
	case name == "send":
		return afterSend(m, at, n, shape)
	case name == "recv":
		return afterRecv(a, n, shape)
	default:
		return afterAny(name, at, shape)
	}
	next, err := swap(shape, takes, puts)
	if err != api.OK {
		return wrongWay(err)
	}
	var ways []way
	for _, to := range targets {
		ways = append(ways, way{to: to, shape: next})
	}
	return ways
}

// afterAny is after of link, drop and dup, which take more than one type.
func afterAny(name string, at int, shape string) []way {
	if shape == "" {
		return wrongWay(api.ErrStack)
	}
	rest, top := shape[:len(shape)-1], shape[len(shape)-1]
	switch {
	case name == "link" && !isPid(top):
		return wrongWay(api.ErrType)
	case name == "dup" && len(shape) == 16:
		return wrongWay(api.ErrStack)
	case name == "dup":
		return []way{{to: at + 1, shape: shape + string(top)}}
	}
	return []way{{to: at + 1, shape: rest}}
}

func afterSend(m api.Module, at, tag int, shape string) []way {
	if len(shape) < 2 {
		return wrongWay(api.ErrStack)
	}
	rest, below, top := shape[:len(shape)-2], shape[len(shape)-2], shape[len(shape)-1:]
	if !isPid(below) {
		return wrongWay(api.ErrType)
	}
	messages := letters(m.Actors[below-'0'].Messages)
	if tag >= len(messages) {
		return wrongWay(api.ErrIndex)
	}
	if top != messages[tag:tag+1] {
		return wrongWay(api.ErrType)
	}
	return []way{{to: at + 1, shape: rest}}
}

func afterRecv(a api.Actor, n int, shape string) []way {
	if n >= len(a.Tables) {
		return wrongWay(api.ErrIndex)
	}
	t, takes := a.Tables[n], ""
	if t.Timeout != -1 {
		takes = "i"
	}
	rest, err := swap(shape, takes, "")
	if err != api.OK {
		return wrongWay(err)
	}
	var ways []way
	for _, c := range t.Clauses {
		if c.Tag >= len(a.Messages) {
			return append(ways, way{err: api.ErrIndex})
		}
		with := rest + letters(a.Messages[c.Tag:c.Tag+1])
		if len(with) > 16 {
			return append(ways, way{err: api.ErrStack})
		}
		ways = append(ways, way{to: c.To, shape: with})
	}
	if t.Timeout != -1 {
		ways = append(ways, way{to: t.Timeout, shape: rest})
	}
	return ways
}

// model looks at the places of one actor of a right module: their shapes, and the first error with its place.
func model(m api.Module, own int) (shapes map[int]string, err api.Errno, at int) {
	shapes = map[int]string{0: ""}
	looked := map[int]bool{}
	size := len(m.Actors[own].Code)
	for {
		at = 0
		for at < size {
			if _, has := shapes[at]; has && !looked[at] {
				break
			}
			at++
		}
		if at == size {
			return shapes, api.OK, 0
		}
		looked[at] = true
		for _, w := range after(m, own, at, shapes[at]) {
			had, has := shapes[w.to]
			switch {
			case w.err != api.OK:
				return nil, w.err, at
			case w.to >= size:
				return nil, api.ErrJump, at
			case has && had != w.shape:
				return nil, api.ErrType, at
			}
			shapes[w.to] = w.shape
		}
	}
}

// modelFault is what Check should make of a right module.
func modelFault(m api.Module) api.Fault {
	for k := range m.Actors {
		if _, err, at := model(m, k); err != api.OK {
			return api.Fault{Err: err, Actor: k, At: at}
		}
	}
	return api.Fault{}
}

// reached counts the places of a well module that have a shape.
func reached(m api.Module) int {
	n := 0
	for k := range m.Actors {
		shapes, _, _ := model(m, k)
		n += len(shapes)
	}
	return n
}

// strolls gives modules one after the other, each a change of a well one, with the fault that the model has of it. Well ones of which more is reached are kept and changed further.
func strolls(seed uint64, walks, steps int, give func(m api.Module, f api.Fault)) {
	d := dice(seed)
	for range walks {
		m := d.bare()
		best := reached(m)
		for range steps {
			next := d.change(m)
			f := modelFault(next)
			give(next, f)
			if f.Err != api.OK {
				continue
			}
			if n := reached(next); n >= best || d.below(8) == 0 {
				m, best = next, n
			}
		}
	}
}

// modelDrawn is drawn of the model's shapes.
func modelDrawn(m api.Module, own int) string {
	shapes, _, _ := model(m, own)
	list := make([]string, len(m.Actors[own].Code))
	for at := range list {
		shape, has := shapes[at]
		if !has {
			shape = "."
		}
		list[at] = shape
	}
	return strings.Join(list, ",")
}
