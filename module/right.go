package module

import (
	"slices"

	"callboy/api"
	"callboy/instr"
	"callboy/kinds"
)

// longModule asks whether there is too much of something, wherever it is: that goes ahead of every other fault.
func longModule(m api.Module) bool {
	return len(m.Actors) > api.MaxActors || slices.ContainsFunc(m.Actors, longActor)
}

func longActor(a api.Actor) bool {
	return len(a.Params) > api.MaxParams ||
		len(a.Regs) > api.MaxRegs ||
		len(a.Messages) > api.MaxMessages ||
		len(a.Code) > api.MaxCode ||
		len(a.Tables) > api.MaxTables ||
		slices.ContainsFunc(a.Tables, longTable)
}

func longTable(t api.Table) bool { return len(t.Clauses) > api.MaxClauses }

// rightModule is asked of a module of which nothing is too much.
func rightModule(m api.Module) bool {
	n := len(m.Actors)
	if n == 0 || len(m.Actors[0].Params) > 0 {
		return false
	}
	for _, a := range m.Actors {
		if !rightActor(a, n) {
			return false
		}
	}
	return true
}

func rightActor(a api.Actor, actors int) bool {
	return rightTypes(a, actors) && rightCode(a.Code) && rightTables(a.Tables)
}

// rightTypes needn't look at each of Params: they are right if they are among Regs.
func rightTypes(a api.Actor, actors int) bool {
	n := len(a.Params)
	return kinds.All(a.Regs, actors) &&
		kinds.All(a.Messages, actors) &&
		n <= len(a.Regs) && kinds.Same(a.Params, a.Regs[:n])
}

func rightCode(code []api.Instr) bool {
	for _, i := range code {
		if !instr.Right(i) {
			return false
		}
	}
	return len(code) > 0
}

func rightTables(tables []api.Table) bool {
	for _, t := range tables {
		if !rightTimeout(int64(t.Timeout)) {
			return false
		}
		for _, c := range t.Clauses {
			if !rightClause(c) {
				return false
			}
		}
	}
	return true
}

func rightTimeout(n int64) bool { return n >= never && n < api.MaxCode }

func rightClause(c api.Clause) bool {
	return c.Tag >= 0 && c.Tag < api.MaxMessages && c.To >= 0 && c.To < api.MaxCode
}
