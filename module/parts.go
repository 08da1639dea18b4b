package module

import (
	"callboy/api"
	"callboy/instr"
	"callboy/reel"
)

// writer writes the parts of a right module.
type writer struct {
	*reel.Writer
}

func (w writer) module(m api.Module) {
	w.raw(magic)
	w.count(len(m.Actors))
	for _, a := range m.Actors {
		w.actor(a)
	}
}

func (w writer) actor(a api.Actor) {
	w.types(a.Params)
	w.types(a.Regs)
	w.types(a.Messages)
	w.code(a.Code)
	w.tables(a.Tables)
}

func (w writer) types(l []api.Type) {
	w.count(len(l))
	for _, t := range l {
		w.Byte(int(t))
	}
}

func (w writer) code(code []api.Instr) {
	w.count(len(code))
	for _, i := range code {
		// Of a right instruction there is no error.
		s, _ := instr.Bytes(i)
		w.raw(s)
	}
}

func (w writer) tables(tables []api.Table) {
	w.count(len(tables))
	for _, t := range tables {
		w.clauses(t.Clauses)
		w.Int(int64(t.Timeout))
	}
}

func (w writer) clauses(clauses []api.Clause) {
	w.count(len(clauses))
	for _, c := range clauses {
		w.Num(uint64(c.Tag))
		w.Num(uint64(c.To))
	}
}

func (w writer) count(n int) { w.Num(uint64(n)) }

// raw writes bytes without their length, which a Text would have.
func (w writer) raw(s string) {
	for i := range len(s) {
		w.Byte(int(s[i]))
	}
}

// reader reads a module's parts. It goes on behind a fault, as layer 1's does, and says at the end that there was one.
type reader struct {
	*reel.Reader
	text  string // the whole of it
	wrong bool   // something was read that no right module has
}

func (r *reader) module() api.Module {
	r.magic()
	actors := make([]api.Actor, r.upTo(api.MaxActors))
	for k := range actors {
		actors[k] = r.actor()
	}
	return api.Module{Actors: actors}
}

func (r *reader) magic() {
	for i := range len(magic) {
		if r.Byte() != int(magic[i]) {
			r.wrong = true
		}
	}
}

func (r *reader) actor() api.Actor {
	var a api.Actor
	a.Params = r.types(api.MaxParams)
	a.Regs = r.types(api.MaxRegs)
	a.Messages = r.types(api.MaxMessages)
	a.Code = r.code()
	a.Tables = r.tables()
	return a
}

func (r *reader) types(most int) []api.Type {
	l := make([]api.Type, r.upTo(most))
	for k := range l {
		l[k] = api.Type(r.Byte())
	}
	return l
}

func (r *reader) code() []api.Instr {
	code := make([]api.Instr, r.upTo(api.MaxCode))
	for k := range code {
		code[k] = r.instr()
	}
	return code
}

func (r *reader) instr() api.Instr {
	i, size, err := instr.Read(r.text[len(r.text)-r.Left():])
	if err != api.OK {
		r.wrong = true
	}
	// Layer 4 read them; here they are only passed over.
	for range size {
		r.Byte()
	}
	return i
}

func (r *reader) tables() []api.Table {
	tables := make([]api.Table, r.upTo(api.MaxTables))
	for k := range tables {
		tables[k].Clauses = r.clauses()
		tables[k].Timeout = r.timeout()
	}
	return tables
}

func (r *reader) clauses() []api.Clause {
	clauses := make([]api.Clause, r.upTo(api.MaxClauses))
	for k := range clauses {
		clauses[k].Tag = r.upTo(api.MaxMessages - 1)
		clauses[k].To = r.upTo(api.MaxCode - 1)
	}
	return clauses
}

// timeout holds the number against its ends ahead of making an int of it, which may have fewer bits.
func (r *reader) timeout() int {
	n := r.Int()
	if !rightTimeout(n) {
		r.wrong = true
		return 0
	}
	return int(n)
}

// upTo reads a number that isn't above most; a greater one is taken as 0, so that no list is made that no module has.
func (r *reader) upTo(most int) int {
	n := r.Num()
	if n > uint64(most) {
		r.wrong = true
		return 0
	}
	return int(n)
}
