package check_test

import (
	"math"
	"slices"
	"strconv"
	"strings"
	"testing"

	"callboy/api"
	"callboy/check"
	"callboy/module"
)

func TestExamples(t *testing.T) { // P6.1
	tryAll(t, []trial{
		{"push 1, add, halt", lone("push 1, add, halt"), fault(api.ErrStack, 1)},
		{"true, push 1, add", lone("true, push 1, add"), fault(api.ErrType, 2)},
		{"jump 5 in a code of one", lone("jump 5"), fault(api.ErrJump, 0)},
	})
}

// exchange is an instruction, and all that it may take with what it puts instead.
type exchange struct {
	text string
	rows map[string]string
	// lacks is what stands below the top of a send whose actor has no such message.
	lacks string
}

// exchanges are those of two actors: of the first one, which has the registers ib01 and the messages i and 1; the second one begins with ib and has the message b.
func exchanges() []exchange {
	list := []exchange{
		{text: "push 7", rows: map[string]string{"": "i"}},
		{text: "true", rows: map[string]string{"": "b"}},
		{text: "false", rows: map[string]string{"": "b"}},
		{text: "load 0", rows: map[string]string{"": "i"}},
		{text: "load 1", rows: map[string]string{"": "b"}},
		{text: "load 2", rows: map[string]string{"": "0"}},
		{text: "load 3", rows: map[string]string{"": "1"}},
		{text: "store 0", rows: map[string]string{"i": ""}},
		{text: "store 1", rows: map[string]string{"b": ""}},
		{text: "store 2", rows: map[string]string{"0": ""}},
		{text: "store 3", rows: map[string]string{"1": ""}},
		{text: "not", rows: map[string]string{"b": "b"}},
		{text: "self", rows: map[string]string{"": "0"}},
		{text: "spawn 0", rows: map[string]string{"": "0"}},
		{text: "spawn 1", rows: map[string]string{"ib": "1"}},
		{text: "send 0", rows: map[string]string{"0i": "", "1b": ""}},
		{text: "send 1", rows: map[string]string{"01": ""}, lacks: "1"},
		{text: "send 2", rows: map[string]string{"??": ""}, lacks: "01"},
		{text: "link", rows: map[string]string{"0": "", "1": ""}},
		{text: "out", rows: map[string]string{"i": ""}},
		{text: "drop", rows: map[string]string{"i": "", "b": "", "0": "", "1": ""}},
		{text: "dup", rows: map[string]string{"i": "ii", "b": "bb", "0": "00", "1": "11"}},
	}
	for _, name := range []string{"add", "sub", "mul", "div", "rem"} {
		list = append(list, exchange{text: name, rows: map[string]string{"ii": "i"}})
	}
	for _, name := range []string{"less", "eq"} {
		list = append(list, exchange{text: name, rows: map[string]string{"ii": "b"}})
	}
	for _, name := range []string{"and", "or"} {
		list = append(list, exchange{text: name, rows: map[string]string{"bb": "b"}})
	}
	return list
}

// made tells what an exchange makes of a shape, or its error.
func (x exchange) made(shape string) (string, api.Errno) {
	size := 0
	for takes, puts := range x.rows {
		size = len(takes)
		rest, ok := strings.CutSuffix(shape, takes)
		switch {
		case !ok:
		case len(rest)+len(puts) > 16:
			return "", api.ErrStack
		default:
			return rest + puts, api.OK
		}
	}
	switch {
	case len(shape) < size:
		return "", api.ErrStack
	case x.lacks != "" && strings.Contains(x.lacks, shape[len(shape)-2:len(shape)-1]):
		return "", api.ErrIndex
	}
	return "", api.ErrType
}

// loading puts a shape of the letters ib01 on the stack.
func loading(shape string) string {
	text := ""
	for _, r := range shape {
		text += "load " + strconv.Itoa(strings.IndexRune("ib01", r)) + ", "
	}
	return text
}

// shapesUpTo are all shapes of the letters ib01 that have so many at most.
func shapesUpTo(size int) []string {
	list, last := []string{""}, []string{""}
	for range size {
		var next []string
		for _, s := range last {
			for _, r := range "ib01" {
				next = append(next, s+string(r))
			}
		}
		list, last = append(list, next...), next
	}
	return list
}

// pair is the two actors that exchanges speaks of.
func pair(text string, tables ...string) api.Module {
	return of(actor("", "ib01", "i1", text, tables...), actor("ib", "", "b", "halt"))
}

func TestEveryInstructionAtEveryShape(t *testing.T) { // P6.1
	shapes := shapesUpTo(3)
	for _, s := range shapesUpTo(2) {
		shapes = append(shapes, strings.Repeat("b", 12)+s, strings.Repeat("i", 13)+s, strings.Repeat("0", 14)+s)
	}
	for _, x := range exchanges() {
		for _, s := range shapes {
			m := pair(loading(s) + x.text + ", halt")
			want, err := x.made(s)
			if err != api.OK {
				tryAll(t, []trial{{x.text + " of " + s, m, fault(err, len(s))}})
				continue
			}
			tryAll(t, []trial{{x.text + " of " + s, m, api.Fault{}}})
			got, has := check.Shapes(m, 0)
			if len(got) != len(s)+2 || !has[len(s)+1] || letters(got[len(s)+1]) != want || letters(got[len(s)]) != s {
				t.Errorf("%s of %s: %s, not %s", x.text, s, drawn(m, 0), want)
			}
		}
	}
}

// What ends goes nowhere, what jumps goes there alone: the place behind has no shape.
func TestWhereItGoesOn(t *testing.T) { // P6.1
	for _, x := range []struct {
		m    api.Module
		want string
	}{
		{lone("halt"), ""},
		{lone("halt, halt"), ",."},
		{lone("push 0, exit, add"), ",i,."},
		{lone("push 0, push 0, exit, add"), ",i,ii,."},
		{lone("push 1, out, halt, add"), ",i,,."},
		{lone("jump 2, add, halt"), ",.,"},
		{lone("push 1, jump 3, add, out, halt"), ",i,.,i,"},
		{lone("jump 0"), ""},
		{lone("jump 1, jump 0"), ","},
		{lone("jump 2, halt, jump 1"), ",,"},
		{lone("true, unless 3, halt, halt"), ",b,,"},
		{lone("push 1, true, unless 5, out, halt, drop, halt"), ",i,ib,i,,i,"},
		{lone("true, unless 0, jump 0"), ",b,"},
		{lone("true, unless 2, halt"), ",b,"},
		{lone("true, dup, unless 5, drop, halt, drop, halt"), ",b,bb,b,,b,"},
		{of(actor("", "", "ib0", "recv 0, halt, out, halt, not, drop, halt, link, halt", "0>2 1>4 2>7")), ",.,i,,b,b,,0,"},
		{of(actor("", "", "ib", "true, push 9, recv 0, out, drop, halt, drop, halt", "0>3 6")), ",b,bi,bi,b,,b,"},
		{of(actor("", "", "ib", "true, recv 0, out, drop, halt", "0>2")), ",b,bi,b,"},
		{of(actor("", "", "", "recv 0, add", "")), ",."},
		{of(actor("", "", "", "push 3, recv 0, add", "0")), ",i,."},
		{of(actor("", "", "", "push 3, recv 0, add, halt", "3")), ",i,.,"},
		{of(actor("", "", "i", "push 3, recv 1, add", "0>9", "0")), ",i,."},
		{of(actor("", "", "i", "push 3, recv 0, drop, jump 0", "0>2 0>2 0>2 0")), ",i,i,"},
	} {
		if got := drawn(x.m, 0); got != x.want {
			t.Errorf("%v: %s, not %s", x.m, got, x.want)
		}
	}
}

func TestWellOnes(t *testing.T) { // P6.1
	counts := "push 10, store 0, load 0, out, load 0, push 1, sub, dup, store 0, push 0, eq, unless 2, halt"
	asks := actor("", "1", "i", "self, push 3, spawn 1, dup, store 0, link, load 0, push 5, send 0, push 100, recv 0, out, halt", "0>11 12")
	answers := actor("0i", "ib", "ib", "recv 0, load 1, add, store 2, load 0, load 2, send 0, jump 0", "0>1")
	tryAll(t, []trial{
		{"halt", lone("halt"), api.Fault{}},
		{"a loop that counts", of(actor("", "i", "", counts)), api.Fault{}},
		{"a loop without end", lone("push 1, out, jump 0"), api.Fault{}},
		{"a loop with something below", lone("push 1, push 2, out, jump 1"), api.Fault{}},
		{"a loop from behind", lone("jump 3, push 1, exit, true, unless 1, jump 3"), api.Fault{}},
		{"one that asks, one that answers", of(asks, answers), api.Fault{}},
		{"200 places", lone("199x jump 199, halt"), api.Fault{}},
		{"all reached of 200", lone("8x true, 8x drop, 8x true, 8x drop, 167x jump 199, halt"), api.Fault{}},
		{"three that know each other", of(
			actor("", "12", "0", "spawn 2, dup, store 1, spawn 1, store 0, load 0, self, send 0, halt"),
			actor("2", "", "0", "recv 0, link, load 0, link, self, drop, halt", "0>1"),
			actor("", "1", "12", "push 0, recv 0, store 0, jump 0, drop, halt", "0>2 1>4 5"),
		), api.Fault{}},
		{"eight of its own type", of(slices.Repeat([]api.Actor{actor("", "7", "7", "load 0, store 0, spawn 7, store 0, halt")}, 8)...), api.Fault{}},
	})
}

func TestSixteenAndOneMore(t *testing.T) { // P6.1, P6.2
	begin := func(k int, behind string) string { return strconv.Itoa(k) + "x push 1, " + behind }
	var list []trial
	add := func(name string, m api.Module, want api.Fault) { list = append(list, trial{name, m, want}) }
	for _, one := range []string{"push 1", "true", "false", "load 0", "load 2", "self", "spawn 0", "spawn 2", "dup"} {
		for _, k := range []int{14, 15} {
			add(one+" of "+strconv.Itoa(k), full(begin(k, one+", halt")), api.Fault{})
		}
		add(one+" of 16", full(begin(16, one+", halt")), fault(api.ErrStack, 16))
	}
	add("a spawn that takes one", full(begin(16, "spawn 1, halt")), api.Fault{})
	for _, one := range []string{"add", "less", "store 0", "out", "drop", "jump 17"} {
		add(one+" of 16", full(begin(16, one+", halt")), api.Fault{})
	}
	add("unless of 16", full("16x true, unless 17, halt"), api.Fault{})
	add("not of 16", full("16x true, not, halt"), api.Fault{})
	add("a message onto 15", full(begin(15, "recv 0, halt, halt")), api.Fault{})
	add("a message onto 16", full(begin(16, "recv 0, halt")), fault(api.ErrStack, 16))
	add("a message onto 16, the last of them taken", full(begin(16, "recv 1, halt, halt")), api.Fault{})
	add("no message onto 16", full(begin(16, "recv 2, halt")), api.Fault{})
	add("no message, and a Timeout with 15", full(begin(16, "recv 3, halt, halt")), api.Fault{})
	tryAll(t, list)
}

// full is an actor that makes shapes of 16, with two others to spawn: one takes an int, the other one nothing.
func full(text string) api.Module {
	a := actor("", "ib0", "i", text, "0>16", "0>17 18", "", "18")
	return of(a, actor("i", "", "", "halt"), actor("", "", "", "halt"))
}

func TestReachedTwice(t *testing.T) { // P6.1
	tryAll(t, []trial{
		{"the same by a jump", lone("push 1, true, unless 4, jump 4, out, halt"), api.Fault{}},
		{"the same, and a type less", lone("push 1, jump 0"), fault(api.ErrType, 1)},
		{"another type", lone("true, unless 4, push 1, jump 5, true, drop, halt"), fault(api.ErrType, 4)},
		{"another type in the midst", lone("true, unless 6, push 1, push 1, push 1, jump 9, push 1, true, push 1, halt"), fault(api.ErrType, 8)},
		{"other types below", lone("push 1, true, true, unless 6, drop, jump 7, and, drop, halt"), fault(api.ErrType, 6)},
		{"a type more", lone("true, unless 3, push 1, halt"), fault(api.ErrType, 2)},
		{"a pid of another actor", of(
			actor("", "01", "", "true, unless 4, load 0, jump 5, load 1, drop, halt"), actor("", "", "", "halt"),
		), fault(api.ErrType, 4)},
		{"itself, with the same", lone("jump 0"), api.Fault{}},
		{"itself, by unless", lone("true, true, unless 2, halt"), fault(api.ErrType, 2)},
		{"two clauses with the same type", of(actor("", "", "ii", "recv 0, out, halt", "0>1 1>1")), api.Fault{}},
		{"two clauses with other types", of(actor("", "", "ib", "recv 0, drop, halt", "0>1 1>1")), fault(api.ErrType, 0)},
		{"a clause and the Timeout", of(actor("", "", "i", "push 1, recv 0, halt", "0>2 2")), fault(api.ErrType, 1)},
		{"a clause back to where the int came from", of(actor("", "", "i", "push 1, recv 0, halt", "0>1 0")), api.Fault{}},
		{"a Timeout to where the int was", of(actor("", "", "", "push 1, recv 0, halt", "1")), fault(api.ErrType, 1)},
		{"the place 0 with something", lone("push 1, true, unless 0, halt"), fault(api.ErrType, 2)},
		{"the place 0 with something, by a clause", of(actor("", "", "i", "recv 0, halt", "0>0")), fault(api.ErrType, 0)},
		{"the place 0 with something, by a Timeout", of(actor("", "", "i", "true, push 1, recv 0", "0")), fault(api.ErrType, 2)},
	})
}

func TestJumps(t *testing.T) { // P6.1
	list := []trial{
		{"to the last place", lone("jump 2, halt, halt"), api.Fault{}},
		{"past it", lone("jump 3, halt, halt"), fault(api.ErrJump, 0)},
		{"far past it", lone("jump 199, halt, halt"), fault(api.ErrJump, 0)},
		{"to the place 199", lone("jump 199, 199x halt"), api.Fault{}},
		{"past it, of 199", lone("jump 199, 198x halt"), fault(api.ErrJump, 0)},
		{"unless to the last place", lone("true, unless 2, halt"), api.Fault{}},
		{"unless past it", lone("true, unless 3, halt"), fault(api.ErrJump, 1)},
		{"unless that is the last", lone("true, unless 0"), fault(api.ErrJump, 1)},
		{"a clause to the last place", of(actor("", "", "i", "recv 0, halt", "0>1")), api.Fault{}},
		{"a clause past it", of(actor("", "", "i", "recv 0, halt", "0>2")), fault(api.ErrJump, 0)},
		{"a second clause past it", of(actor("", "", "i", "recv 0, halt", "0>1 0>199")), fault(api.ErrJump, 0)},
		{"a Timeout to the last place", of(actor("", "", "i", "push 1, recv 0, halt", "2")), api.Fault{}},
		{"a Timeout past it", of(actor("", "", "i", "push 1, recv 0, halt", "3")), fault(api.ErrJump, 1)},
		{"a Timeout far past it", of(actor("", "", "i", "push 1, recv 0, halt", "199")), fault(api.ErrJump, 1)},
		{"a recv that is the last, and goes nowhere", of(actor("", "", "", "jump 2, halt, recv 0", "")), api.Fault{}},
		{"a recv that is the last, and goes back", of(actor("", "", "i", "jump 2, out, recv 0", "0>1")), api.Fault{}},
		{"the last place of another actor", of(actor("", "", "", "halt"), actor("", "", "", "jump 1, push 1")), api.Fault{Err: api.ErrJump, Actor: 1, At: 1}},
	}
	goOn := "push 1|true|load 0|load 2, store 2|push 1, push 1, add|push 1, push 1, eq|true, not|true, true, and|self|spawn 1|self, push 1, send 0|self, link|push 1, out|push 1, drop|push 1, dup"
	for text := range strings.SplitSeq(goOn, "|") {
		a := actor("", "ib0", "i", text)
		list = append(list, trial{text + " is the last", of(a, actor("", "", "", "halt")), fault(api.ErrJump, len(a.Code)-1)})
	}
	for text := range strings.SplitSeq("halt|jump 0|push 1, exit", "|") {
		list = append(list, trial{text + " is the last", lone(text), api.Fault{}})
	}
	tryAll(t, list)
}

func TestNamesNothing(t *testing.T) { // P6.1
	some := func(text string) api.Module {
		return of(actor("", "ib", "i", text, "0>4", "0>4 4", "1>4", "0>4 1>4"), actor("", "i", "", "halt"))
	}
	tryAll(t, []trial{
		{"the last register", some("load 1, store 1, halt"), api.Fault{}},
		{"load past it", some("load 2, halt"), fault(api.ErrIndex, 0)},
		{"load far past it", some("load 15, halt"), fault(api.ErrIndex, 0)},
		{"store past it", some("push 1, store 2, halt"), fault(api.ErrIndex, 1)},
		{"a register that another actor has", of(actor("", "", "", "load 0, halt"), actor("", "i", "", "halt")), fault(api.ErrIndex, 0)},
		{"the last actor", some("spawn 1, halt"), api.Fault{}},
		{"spawn past it", some("spawn 2, halt"), fault(api.ErrIndex, 0)},
		{"spawn far past it", some("spawn 7, halt"), fault(api.ErrIndex, 0)},
		{"the last message", some("self, push 1, send 0, halt"), api.Fault{}},
		{"send past it", some("self, push 1, send 1, halt"), fault(api.ErrIndex, 2)},
		{"send far past it", some("self, push 1, send 7, halt"), fault(api.ErrIndex, 2)},
		{"a message that the sender has", some("spawn 1, push 1, send 0, halt"), fault(api.ErrIndex, 2)},
		{"the first table", some("recv 0, 3x halt, halt"), api.Fault{}},
		{"a clause without a message", some("recv 2, 3x halt, halt"), fault(api.ErrIndex, 0)},
		{"a second clause without a message", some("recv 3, 3x halt, halt"), fault(api.ErrIndex, 0)},
		{"recv past the last table", some("recv 4, halt"), fault(api.ErrIndex, 0)},
		{"recv far past it", some("recv 7, halt"), fault(api.ErrIndex, 0)},
		{"a table that another actor has", of(actor("", "", "", "recv 0"), actor("", "", "i", "recv 0", "0>0")), fault(api.ErrIndex, 0)},
		{"a message of a clause that another actor has", of(actor("", "", "", "recv 0, halt", "0>1"), actor("", "", "i", "halt")), fault(api.ErrIndex, 0)},
	})
}

func TestOrderOfErrors(t *testing.T) { // P6.1, R1
	some := func(text string) api.Module {
		return of(actor("", "ib", "i", text, "0>199 199", "0>0 7>199", "7>199", "0>199 7>0"), actor("ib", "", "", "halt"))
	}
	tryAll(t, []trial{
		{"store: the register ahead of the empty stack", some("store 2"), fault(api.ErrIndex, 0)},
		{"load: the register ahead of the full stack", some("16x true, load 2"), fault(api.ErrIndex, 16)},
		{"spawn: the actor ahead of the full stack", some("16x true, spawn 2"), fault(api.ErrIndex, 16)},
		{"recv: the table ahead of the stack", some("recv 4"), fault(api.ErrIndex, 0)},
		{"add: too few ahead of the type", some("true, add"), fault(api.ErrStack, 1)},
		{"spawn: too few ahead of the type", some("push 1, spawn 1"), fault(api.ErrStack, 1)},
		{"spawn: the type of the lower one", some("true, true, spawn 1, halt"), fault(api.ErrType, 2)},
		{"spawn: the types the other way round", some("true, push 1, spawn 1, halt"), fault(api.ErrType, 2)},
		{"add: the type ahead of the place", some("true, true, add"), fault(api.ErrType, 2)},
		{"store: the type ahead of the place", some("push 1, store 1"), fault(api.ErrType, 1)},
		{"unless: too few ahead of the place", some("unless 199"), fault(api.ErrStack, 0)},
		{"unless: the type ahead of the place", some("push 1, unless 199"), fault(api.ErrType, 1)},
		{"unless: another shape of A ahead of no place behind", lone("true, true, unless 0"), fault(api.ErrType, 2)},
		{"unless: no place A ahead of another shape behind", lone("true, unless 5, push 1, true, unless 99, halt"), fault(api.ErrJump, 4)},
		{"push: the full stack ahead of the place", some("17x push 1"), fault(api.ErrStack, 16)},
		{"dup: the full stack ahead of the place", some("16x push 1, dup"), fault(api.ErrStack, 16)},
		{"send: too few ahead of all", some("push 1, send 7"), fault(api.ErrStack, 1)},
		{"send: a pid alone", some("self, send 7"), fault(api.ErrStack, 1)},
		{"send: no pid ahead of no message", some("push 1, true, send 7"), fault(api.ErrType, 2)},
		{"send: a pid on top alone", some("push 1, self, send 7"), fault(api.ErrType, 2)},
		{"send: no message ahead of its type", some("self, true, send 1"), fault(api.ErrIndex, 2)},
		{"send: the type of the message", some("self, true, send 0"), fault(api.ErrType, 2)},
		{"send: the type ahead of the place", some("self, self, send 0"), fault(api.ErrType, 2)},
		{"recv: too few ahead of the clauses", some("recv 0"), fault(api.ErrStack, 0)},
		{"recv: the type ahead of the clauses", some("true, recv 0"), fault(api.ErrType, 1)},
		{"recv: a clause's place ahead of the next one's message", some("recv 3"), fault(api.ErrJump, 0)},
		{"recv: a clause's shape ahead of the next one's message", some("recv 1"), fault(api.ErrType, 0)},
		{"recv: no message ahead of the full stack", some("16x push 1, recv 2"), fault(api.ErrIndex, 16)},
		{"recv: the full stack ahead of no place", some("16x true, recv 3"), fault(api.ErrStack, 16)},
		{"recv: a clause ahead of the Timeout", of(actor("", "", "i", "push 1, recv 0, halt", "7>2 199")), fault(api.ErrIndex, 1)},
		{"recv: a clause's shape ahead of the Timeout's place", of(actor("", "", "i", "push 1, recv 0, halt", "0>0 199")), fault(api.ErrType, 1)},
		{"recv: a clause's place ahead of the Timeout's shape", of(actor("", "", "i", "push 1, recv 0, halt", "0>199 1")), fault(api.ErrJump, 1)},
	})
}

func TestFirstLookedAt(t *testing.T) { // P6.1
	well, ill := actor("", "", "", "push 1, out, halt"), actor("", "", "", "push 1, halt, add")
	ill.Code[1] = api.Instr{Op: api.OpNot}
	late := actor("", "", "", "20x true, halt")
	tryAll(t, []trial{
		{"the lower one of two", lone("true, unless 3, add, add"), fault(api.ErrStack, 2)},
		{"the one that is jumped to first is behind", lone("jump 3, not, halt, true, unless 1, add"), fault(api.ErrStack, 1)},
		{"a place below that was met last", lone("jump 4, not, add, halt, true, true, unless 2, unless 1, halt"), fault(api.ErrStack, 2)},
		{"the lowest one that waits, not the last one met", lone("jump 2, out, true, unless 5, jump 1, add"), fault(api.ErrStack, 1)},
		{"the higher one that was met by a lower place", lone("true, unless 4, true, jump 4, halt"), fault(api.ErrType, 3)},
		{"one that is ill, but never reached", lone("true, unless 5, push 1, push 1, halt, halt, add"), api.Fault{}},
		{"the second actor", of(well, ill), api.Fault{Err: api.ErrType, Actor: 1, At: 1}},
		{"the first of two actors, though later in its code", of(late, ill), fault(api.ErrStack, 16)},
		{"the second of three", of(well, ill, late), api.Fault{Err: api.ErrType, Actor: 1, At: 1}},
		{"the last of three", of(well, well, late), api.Fault{Err: api.ErrStack, Actor: 2, At: 16}},
		{"one that nobody spawns", of(actor("", "", "", "halt"), actor("ib", "", "", "load 0, load 1, add, halt")), api.Fault{Err: api.ErrType, Actor: 1, At: 2}},
		{"the last of eight", of(append(slices.Repeat([]api.Actor{well}, 7), ill)...), api.Fault{Err: api.ErrType, Actor: 7, At: 1}},
	})
}

// not right: Right's error goes ahead of what looking would meet, and has no place.
func TestNotRight(t *testing.T) { // P6.1, R5
	ill := func(edit func(m *api.Module)) api.Module {
		m := of(actor("", "i", "i", "push 1, halt, halt", "0>1"), actor("i", "b", "b", "push 1, true, add", "0>1"))
		edit(&m)
		return m
	}
	list := []api.Module{
		{}, {Actors: []api.Actor{}}, {Actors: make([]api.Actor, 1)}, {Actors: make([]api.Actor, 9)},
		ill(func(m *api.Module) { m.Actors[0].Code = nil }),
		ill(func(m *api.Module) { m.Actors[1].Code = nil }),
		ill(func(m *api.Module) { m.Actors[1].Code = make([]api.Instr, 201) }),
		ill(func(m *api.Module) { m.Actors[1].Regs = nil }),
		ill(func(m *api.Module) { m.Actors[1].Regs = make([]api.Type, 17) }),
		ill(func(m *api.Module) { m.Actors[0].Params = types("i") }),
		ill(func(m *api.Module) { m.Actors[1].Messages[0] = 18 }),
		ill(func(m *api.Module) { m.Actors[1].Messages = make([]api.Type, 9) }),
		ill(func(m *api.Module) { m.Actors[0].Regs[0] = math.MaxInt }),
		ill(func(m *api.Module) { m.Actors[1].Tables = make([]api.Table, 9) }),
		ill(func(m *api.Module) { m.Actors[1].Tables[0].Clauses = make([]api.Clause, 9) }),
		ill(func(m *api.Module) { m.Actors[1].Tables[0].Clauses[0].Tag = 8 }),
		ill(func(m *api.Module) { m.Actors[1].Tables[0].Clauses[0].Tag = -1 }),
		ill(func(m *api.Module) { m.Actors[1].Tables[0].Clauses[0].To = 200 }),
		ill(func(m *api.Module) { m.Actors[1].Tables[0].Clauses[0].To = math.MinInt }),
		ill(func(m *api.Module) { m.Actors[1].Tables[0].Timeout = -2 }),
		ill(func(m *api.Module) { m.Actors[1].Tables[0].Timeout = 200 }),
	}
	for _, i := range []api.Instr{
		{Op: -1}, {Op: 27}, {Op: math.MaxInt}, {Op: api.OpHalt, A: 1}, {Op: api.OpLoad, A: -1}, {Op: api.OpStore, A: 16},
		{Op: api.OpJump, A: -1}, {Op: api.OpUnless, A: 200}, {Op: api.OpSpawn, A: 8}, {Op: api.OpSpawn, A: math.MinInt64},
		{Op: api.OpSend, A: -1}, {Op: api.OpRecv, A: 8}, {Op: api.OpRecv, A: math.MaxInt64}, {Op: api.OpRecv, A: 1 << 32},
	} {
		list = append(list,
			ill(func(m *api.Module) { m.Actors[0].Code[2] = i }),
			ill(func(m *api.Module) { m.Actors[1].Code[0] = i }),
		)
	}
	for _, m := range list {
		err := module.Right(m)
		if err == api.OK {
			t.Errorf("%v is right", m)
		}
		if got := check.Check(m); got != fault(err, 0) {
			t.Errorf("%v: %v, not %v", m, got, err)
		}
		for k := -1; k < 10; k++ {
			if shapes, has := check.Shapes(m, k); len(shapes) != 0 || len(has) != 0 {
				t.Errorf("%v: shapes of the actor %d", m, k)
			}
		}
	}
}
