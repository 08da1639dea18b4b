package module_test

import (
	"math"
	"slices"

	"callboy/api"
	"callboy/instr"
)

const (
	least = math.MinInt64
	most  = math.MaxInt64
)

// halts is the chapter's example.
func halts() api.Module {
	return api.Module{Actors: []api.Actor{{Code: []api.Instr{{Op: api.OpHalt}}}}}
}

// lone is one actor that has all that a first one may have.
func lone() api.Module {
	return api.Module{Actors: []api.Actor{{
		Regs:     []api.Type{api.TInt, api.TPid, api.TBool},
		Messages: []api.Type{api.TInt, api.TPid},
		Code:     []api.Instr{{Op: api.OpPush, A: -1}, {Op: api.OpRecv, A: 1}, {Op: api.OpJump, A: 199}, {Op: api.OpHalt}},
		Tables: []api.Table{
			{Clauses: []api.Clause{{Tag: 1, To: 3}, {Tag: 0, To: 150}}, Timeout: 2},
			{Timeout: -1},
		},
	}}}
}

// trio is three actors: some have Params, Regs, Messages and Tables, some have none.
func trio() api.Module {
	return api.Module{Actors: []api.Actor{
		{
			Messages: []api.Type{api.TPid + 2},
			Code:     []api.Instr{{Op: api.OpSpawn, A: 2}, {Op: api.OpDrop}, {Op: api.OpHalt}},
		},
		{
			Params:   []api.Type{api.TPid + 1, api.TInt},
			Regs:     []api.Type{api.TPid + 1, api.TInt, api.TBool},
			Messages: []api.Type{api.TInt, api.TBool, api.TPid},
			Code:     []api.Instr{{Op: api.OpLoad, A: 1}, {Op: api.OpRecv}, {Op: api.OpOut}, {Op: api.OpHalt}},
			Tables: []api.Table{
				{Clauses: []api.Clause{{Tag: 0, To: 2}, {Tag: 2, To: 3}}, Timeout: 3},
				{Clauses: []api.Clause{{Tag: 1, To: 0}}, Timeout: -1},
			},
		},
		{
			Code: []api.Instr{{Op: api.OpHalt}},
		},
	}}
}

// greatest has as much of everything as there may be, all of it as long as it may be.
func greatest() api.Module {
	var m api.Module
	for k := range 8 {
		a := api.Actor{
			Regs:     slices.Repeat([]api.Type{api.TPid + 7}, 16),
			Messages: slices.Repeat([]api.Type{api.TPid}, 8),
			Code:     slices.Repeat([]api.Instr{{Op: api.OpPush, A: least}}, 200),
		}
		if k > 0 {
			a.Params = slices.Repeat([]api.Type{api.TPid + 7}, 4)
		}
		for range 8 {
			a.Tables = append(a.Tables, api.Table{Clauses: slices.Repeat([]api.Clause{{Tag: 7, To: 199}}, 8), Timeout: 199})
		}
		m.Actors = append(m.Actors, a)
	}
	return m
}

// samples are right modules.
func samples() []api.Module {
	eight := api.Module{Actors: slices.Repeat(halts().Actors, 8)}
	all := halts()
	all.Actors[0].Code = nil
	for op := range 27 {
		all.Actors[0].Code = append(all.Actors[0].Code, api.Instr{Op: op})
	}
	return []api.Module{halts(), lone(), trio(), eight, all, greatest()}
}

// clone shares no memory with m.
func clone(m api.Module) api.Module {
	m.Actors = slices.Clone(m.Actors)
	for k := range m.Actors {
		a := &m.Actors[k]
		a.Params, a.Regs, a.Messages = slices.Clone(a.Params), slices.Clone(a.Regs), slices.Clone(a.Messages)
		a.Code, a.Tables = slices.Clone(a.Code), slices.Clone(a.Tables)
		for j := range a.Tables {
			a.Tables[j].Clauses = slices.Clone(a.Tables[j].Clauses)
		}
	}
	return m
}

// encoder writes modules as the chapters 1, 4 and 5 say, by itself. The number (counted from 0) that is stretched is written one byte longer than it need be.
type encoder struct {
	text    []byte
	numbers int
	stretch int
}

func (e *encoder) num(n uint64) {
	for ; n > 127; n >>= 7 {
		e.text = append(e.text, byte(n)|128)
	}
	if e.numbers == e.stretch {
		e.text = append(e.text, byte(n)|128)
		n = 0
	}
	e.text = append(e.text, byte(n))
	e.numbers++
}

func (e *encoder) int(n int64) { e.num(uint64(n)<<1 ^ uint64(n>>63)) }

func (e *encoder) module(m api.Module) {
	e.text = append(e.text, 0x43, 0x42, 0x31)
	e.num(uint64(len(m.Actors)))
	for _, a := range m.Actors {
		for _, l := range [][]api.Type{a.Params, a.Regs, a.Messages} {
			e.num(uint64(len(l)))
			for _, t := range l {
				e.text = append(e.text, byte(t))
			}
		}
		e.num(uint64(len(a.Code)))
		for _, i := range a.Code {
			e.text = append(e.text, byte(i.Op))
			if instr.Has(i.Op) {
				e.int(i.A)
			}
		}
		e.num(uint64(len(a.Tables)))
		for _, t := range a.Tables {
			e.num(uint64(len(t.Clauses)))
			for _, c := range t.Clauses {
				e.num(uint64(c.Tag))
				e.num(uint64(c.To))
			}
			e.int(int64(t.Timeout))
		}
	}
}

func encode(m api.Module) string {
	e := encoder{stretch: -1}
	e.module(m)
	return string(e.text)
}

// writable asks whether encode loses nothing of m.
func writable(m api.Module) bool {
	for _, a := range m.Actors {
		for _, t := range slices.Concat(a.Params, a.Regs, a.Messages) {
			if t < 0 || t > 255 {
				return false
			}
		}
		for _, i := range a.Code {
			if i.Op < 0 || i.Op > 255 || !instr.Has(i.Op) && i.A != 0 {
				return false
			}
		}
	}
	return true
}

// edit is what makes something else of a right module.
type edit struct {
	name string
	do   func(m *api.Module)
}

// tooMuch makes trio have one of each thing too much, in each actor.
func tooMuch() []edit {
	list := []edit{
		{"9 actors", func(m *api.Module) { m.Actors = append(m.Actors, slices.Repeat(halts().Actors, 6)...) }},
		{"1000 actors", func(m *api.Module) { m.Actors = append(m.Actors, make([]api.Actor, 997)...) }},
	}
	for k := range 3 {
		list = append(list,
			edit{"5 Params", func(m *api.Module) {
				m.Actors[k].Params = slices.Repeat([]api.Type{api.TInt}, 5)
				m.Actors[k].Regs = slices.Repeat([]api.Type{api.TInt}, 5)
			}},
			edit{"17 Regs", func(m *api.Module) {
				a := &m.Actors[k]
				a.Regs = append(a.Regs, slices.Repeat([]api.Type{api.TInt}, 17-len(a.Regs))...)
			}},
			edit{"9 Messages", func(m *api.Module) { m.Actors[k].Messages = slices.Repeat([]api.Type{api.TInt}, 9) }},
			edit{"201 instructions", func(m *api.Module) { m.Actors[k].Code = make([]api.Instr, 201) }},
			edit{"9 Tables", func(m *api.Module) { m.Actors[k].Tables = make([]api.Table, 9) }},
			edit{"9 Clauses", func(m *api.Module) {
				m.Actors[k].Tables = []api.Table{{}, {Clauses: make([]api.Clause, 9), Timeout: -1}, {}}
			}},
			edit{"70000 of all", func(m *api.Module) {
				types := make([]api.Type, 70000)
				m.Actors[k] = api.Actor{
					Params: types, Regs: types, Messages: types, Code: make([]api.Instr, 70000),
					Tables: []api.Table{{Clauses: make([]api.Clause, 70000)}},
				}
			}},
		)
	}
	return list
}

// wrong makes trio have just one fault that isn't one of too much.
func wrong() []edit {
	list := []edit{
		{"no Code", func(m *api.Module) { m.Actors[0].Code = nil }},
		{"no Code behind", func(m *api.Module) { m.Actors[2].Code = []api.Instr{} }},
		{"Params of the first", func(m *api.Module) {
			m.Actors[0].Params, m.Actors[0].Regs = []api.Type{api.TInt}, []api.Type{api.TInt}
		}},
		{"more Params than Regs", func(m *api.Module) { m.Actors[1].Regs = m.Actors[1].Regs[:1] }},
		{"Params and no Regs", func(m *api.Module) { m.Actors[1].Regs = nil }},
		{"another first Param", func(m *api.Module) { m.Actors[1].Params[0] = api.TPid }},
		{"another last Param", func(m *api.Module) { m.Actors[1].Params[1] = api.TBool }},
		{"another first Reg", func(m *api.Module) { m.Actors[1].Regs[0] = api.TPid + 2 }},
		{"Params that are last ones of Regs", func(m *api.Module) { m.Actors[1].Params = []api.Type{api.TInt, api.TBool} }},
		{"an actor less than there must be", func(m *api.Module) { m.Actors = m.Actors[:2] }},
	}
	for _, t := range []api.Type{least, -1, 0, 3, 15, 19, 23, 24, 255, 256 + 1, 256 + 16, 1<<32 + 1, most} {
		list = append(list,
			edit{"a type of Params and Regs", func(m *api.Module) { m.Actors[1].Params[1], m.Actors[1].Regs[1] = t, t }},
			edit{"a type of Regs", func(m *api.Module) { m.Actors[1].Regs[2] = t }},
			edit{"a type of Messages", func(m *api.Module) { m.Actors[1].Messages[2] = t }},
			edit{"a type of the first's Messages", func(m *api.Module) { m.Actors[0].Messages[0] = t }},
		)
	}
	for _, i := range []api.Instr{
		{Op: -1}, {Op: 27}, {Op: 255}, {Op: 256}, {Op: least}, {Op: most},
		{Op: api.OpHalt, A: 1}, {Op: api.OpAdd, A: -1}, {Op: api.OpDup, A: most},
		{Op: api.OpLoad, A: -1}, {Op: api.OpLoad, A: 16}, {Op: api.OpStore, A: 16}, {Op: api.OpJump, A: 200}, {Op: api.OpUnless, A: -1},
		{Op: api.OpSpawn, A: 8}, {Op: api.OpSend, A: 8}, {Op: api.OpRecv, A: 8}, {Op: api.OpRecv, A: least},
	} {
		list = append(list,
			edit{"a first instruction", func(m *api.Module) { m.Actors[0].Code[0] = i }},
			edit{"a last instruction", func(m *api.Module) { m.Actors[1].Code[3] = i }},
			edit{"a lone instruction", func(m *api.Module) { m.Actors[2].Code[0] = i }},
		)
	}
	return append(list, wrongTables()...)
}

func wrongTables() []edit {
	var list []edit
	for _, n := range []int{least, -2, -1, 8, 9, 128, 1 << 32, most} {
		list = append(list,
			edit{"a first Tag", func(m *api.Module) { m.Actors[1].Tables[0].Clauses[0].Tag = n }},
			edit{"a last Tag", func(m *api.Module) { m.Actors[1].Tables[1].Clauses[0].Tag = n }},
		)
	}
	for _, n := range []int{least, -2, -1, 200, 201, 1 << 32, most} {
		list = append(list,
			edit{"a To", func(m *api.Module) { m.Actors[1].Tables[0].Clauses[1].To = n }},
			edit{"a last To", func(m *api.Module) { m.Actors[1].Tables[1].Clauses[0].To = n }},
		)
	}
	for _, n := range []int{least, -200, -3, -2, 200, 201, 1 << 32, most} {
		list = append(list,
			edit{"a first Timeout", func(m *api.Module) { m.Actors[1].Tables[0].Timeout = n }},
			edit{"a last Timeout", func(m *api.Module) { m.Actors[1].Tables[1].Timeout = n }},
		)
	}
	return list
}

// others makes of trio modules that are right, each unlike it in one field alone, or in one thing more or less.
func others() []edit {
	return []edit{
		{"an actor more", func(m *api.Module) { m.Actors = append(m.Actors, halts().Actors...) }},
		{"another Param", func(m *api.Module) { m.Actors[1].Params[0], m.Actors[1].Regs[0] = api.TPid, api.TPid }},
		{"a Param less", func(m *api.Module) { m.Actors[1].Params = m.Actors[1].Params[:1] }},
		{"no Param", func(m *api.Module) { m.Actors[1].Params = nil }},
		{"a Param more", func(m *api.Module) { m.Actors[1].Params = m.Actors[1].Regs }},
		{"another Reg", func(m *api.Module) { m.Actors[1].Regs[2] = api.TInt }},
		{"a Reg less", func(m *api.Module) { m.Actors[1].Regs = m.Actors[1].Regs[:2] }},
		{"a Reg more", func(m *api.Module) { m.Actors[2].Regs = []api.Type{api.TInt} }},
		{"another Message", func(m *api.Module) { m.Actors[1].Messages[1] = api.TInt }},
		{"a Message less", func(m *api.Module) { m.Actors[1].Messages = m.Actors[1].Messages[:2] }},
		{"a Message more", func(m *api.Module) { m.Actors[0].Messages = append(m.Actors[0].Messages, api.TBool) }},
		{"Messages the other way round", func(m *api.Module) { slices.Reverse(m.Actors[1].Messages) }},
		{"another Op", func(m *api.Module) { m.Actors[1].Code[2].Op = api.OpDrop }},
		{"another last Op", func(m *api.Module) { m.Actors[2].Code[0].Op = api.OpDup }},
		{"another A", func(m *api.Module) { m.Actors[1].Code[0].A = 15 }},
		{"an instruction less", func(m *api.Module) { m.Actors[1].Code = m.Actors[1].Code[:3] }},
		{"an instruction more", func(m *api.Module) { m.Actors[2].Code = append(m.Actors[2].Code, api.Instr{}) }},
		{"another Tag", func(m *api.Module) { m.Actors[1].Tables[0].Clauses[1].Tag = 7 }},
		{"another To", func(m *api.Module) { m.Actors[1].Tables[0].Clauses[1].To = 199 }},
		{"a Clause less", func(m *api.Module) { m.Actors[1].Tables[1].Clauses = nil }},
		{"a Clause more", func(m *api.Module) { m.Actors[1].Tables[0].Clauses = make([]api.Clause, 8) }},
		{"Clauses the other way round", func(m *api.Module) { slices.Reverse(m.Actors[1].Tables[0].Clauses) }},
		{"another Timeout", func(m *api.Module) { m.Actors[1].Tables[0].Timeout = 199 }},
		{"a Timeout less", func(m *api.Module) { m.Actors[1].Tables[0].Timeout = -1 }},
		{"a Timeout of 0", func(m *api.Module) { m.Actors[1].Tables[1].Timeout = 0 }},
		{"a Table less", func(m *api.Module) { m.Actors[1].Tables = m.Actors[1].Tables[:1] }},
		{"a Table more", func(m *api.Module) { m.Actors[1].Tables = append(m.Actors[1].Tables, api.Table{}) }},
		{"a Table for another one", func(m *api.Module) { m.Actors[0].Tables = []api.Table{{Timeout: -1}} }},
		{"Tables the other way round", func(m *api.Module) { slices.Reverse(m.Actors[1].Tables) }},
		{"actors in another order", func(m *api.Module) { m.Actors[1], m.Actors[2] = m.Actors[2], m.Actors[1] }},
	}
}

// dice throws numbers that hang on the seed alone.
type dice uint64

func (d *dice) below(n int) int {
	*d = *d*6364136223846793005 + 1442695040888963407
	return int(uint64(*d) >> 33 % uint64(n))
}

// anyRight makes a right module.
func (d *dice) anyRight() api.Module {
	actors := 1 + d.below(8)
	m := api.Module{Actors: make([]api.Actor, actors)}
	for k := range m.Actors {
		a := &m.Actors[k]
		a.Regs = d.types(d.below(17), actors)
		a.Messages = d.types(d.below(9), actors)
		if k > 0 {
			a.Params = slices.Clone(a.Regs[:d.below(1+min(4, len(a.Regs)))])
		}
		a.Code = make([]api.Instr, 1+d.below(20))
		for j := range a.Code {
			a.Code[j] = d.instr()
		}
		a.Tables = make([]api.Table, d.below(9))
		for j := range a.Tables {
			a.Tables[j] = d.table()
		}
	}
	return m
}

func (d *dice) types(size, actors int) []api.Type {
	l := make([]api.Type, size)
	for k := range l {
		switch n := d.below(2 + actors); n {
		case 0:
			l[k] = 1
		case 1:
			l[k] = 2
		default:
			l[k] = api.Type(16 + n - 2)
		}
	}
	return l
}

func (d *dice) instr() api.Instr {
	for {
		i := api.Instr{Op: d.below(27)}
		if i.Op == api.OpPush {
			i.A = int64(d.below(1<<31)-1<<30) << d.below(33)
		} else if instr.Has(i.Op) {
			i.A = int64(d.below(200))
		}
		if instr.Right(i) {
			return i
		}
	}
}

func (d *dice) table() api.Table {
	t := api.Table{Clauses: make([]api.Clause, d.below(9)), Timeout: d.below(201) - 1}
	for k := range t.Clauses {
		t.Clauses[k] = api.Clause{Tag: d.below(8), To: d.below(200)}
	}
	return t
}
