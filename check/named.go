package check

import "callboy/api"

// register tells the type of a register of the own actor.
func (w *walk) register(n int64) api.Type {
	regs := w.actors[w.own].Regs
	if n >= int64(len(regs)) {
		w.noSuch()
		return 0
	}
	return regs[n]
}

// params tells what an actor begins with.
func (w *walk) params(actor int64) []api.Type {
	if actor >= int64(len(w.actors)) {
		w.noSuch()
		return nil
	}
	return w.actors[actor].Params
}

// table tells a table of the own actor.
func (w *walk) table(n int64) api.Table {
	tables := w.actors[w.own].Tables
	if n >= int64(len(tables)) {
		w.noSuch()
		return api.Table{Timeout: never}
	}
	return tables[n]
}

// waits tells what a receive by this table takes: how long it waits, if it has a Timeout.
func (w *walk) waits(table int64) []api.Type {
	if w.table(table).Timeout == never {
		return nil
	}
	return []api.Type{api.TInt}
}

// message tells the type of an actor's message.
func (w *walk) message(actor, tag int) api.Type {
	messages := w.actors[actor].Messages
	if tag >= len(messages) {
		w.noSuch()
		return 0
	}
	return messages[tag]
}

// noSuch says that a number names nothing, unless there was an error ahead.
func (w *walk) noSuch() {
	if w.err == api.OK {
		w.err = api.ErrIndex
	}
}
