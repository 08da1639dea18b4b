package check

import (
	"callboy/api"
	"callboy/kinds"
)

// What an instruction may take beside a type; neither is one.
const (
	anything api.Type = -1
	anyPid   api.Type = -2
)

// never is the Timeout of a table that has none.
const never = -1

// act makes of the stack what the instruction makes of it. An A that names nothing is met first, since it is asked for ahead of what is taken.
func (w *walk) act(i api.Instr) {
	switch i.Op {
	case api.OpPush:
		w.put(api.TInt)
	case api.OpTrue, api.OpFalse:
		w.put(api.TBool)
	case api.OpLoad:
		w.put(w.register(i.A))
	case api.OpStore:
		w.take(w.register(i.A))
	case api.OpAdd, api.OpSub, api.OpMul, api.OpDiv, api.OpRem:
		w.take(api.TInt, api.TInt)
		w.put(api.TInt)
	case api.OpLess, api.OpEq:
		w.take(api.TInt, api.TInt)
		w.put(api.TBool)
	case api.OpNot:
		w.take(api.TBool)
		w.put(api.TBool)
	case api.OpAnd, api.OpOr:
		w.take(api.TBool, api.TBool)
		w.put(api.TBool)
	case api.OpUnless:
		w.take(api.TBool)
	case api.OpSelf:
		w.putPid(w.own)
	case api.OpSpawn:
		w.take(w.params(i.A)...)
		w.putPid(int(i.A))
	case api.OpSend:
		w.send(int(i.A))
	case api.OpRecv:
		w.take(w.waits(i.A)...)
	case api.OpLink:
		w.take(anyPid)
	case api.OpExit, api.OpOut:
		w.take(api.TInt)
	case api.OpDrop:
		w.take(anything)
	case api.OpDup:
		w.dup()
	}
}

// goOn goes to where the instruction goes on.
func (w *walk) goOn(i api.Instr) {
	switch i.Op {
	case api.OpHalt, api.OpExit:
	case api.OpJump:
		w.to(int(i.A))
	case api.OpUnless:
		w.to(int(i.A))
		w.to(w.at + 1)
	case api.OpRecv:
		w.receive(w.table(i.A))
	default:
		w.to(w.at + 1)
	}
}

// take takes types off the stack, the last one off its top.
func (w *walk) take(wanted ...api.Type) {
	if w.err != api.OK {
		return
	}
	left := len(w.stack) - len(wanted)
	if left < 0 {
		w.err = api.ErrStack
		return
	}
	for k, t := range wanted {
		if !fits(w.stack[left+k], t) {
			w.err = api.ErrType
			return
		}
	}
	w.stack = w.stack[:left]
}

func fits(t, wanted api.Type) bool {
	switch wanted {
	case anything:
		return true
	case anyPid:
		_, ok := kinds.Actor(t)
		return ok
	}
	return t == wanted
}

func (w *walk) put(t api.Type) {
	if w.err != api.OK {
		return
	}
	if len(w.stack) >= api.MaxStack {
		w.err = api.ErrStack
		return
	}
	w.stack = append(w.stack, t)
}

func (w *walk) putPid(actor int) {
	// Each actor of a right module has a type of its processes.
	t, _ := kinds.Of(actor)
	w.put(t)
}

func (w *walk) dup() {
	if len(w.stack) == 0 {
		w.err = api.ErrStack
		return
	}
	w.put(w.stack[len(w.stack)-1])
}

// send has an order of errors of its own: whose message it is hangs on what stands below the top.
func (w *walk) send(tag int) {
	below := len(w.stack) - 2
	if below < 0 {
		w.err = api.ErrStack
		return
	}
	actor, ok := kinds.Actor(w.stack[below])
	if !ok {
		w.err = api.ErrType
		return
	}
	w.take(anyPid, w.message(actor, tag))
}

// receive goes on clause by clause, each time with its message put on what stands there.
func (w *walk) receive(t api.Table) {
	rest := w.stack
	for _, c := range t.Clauses {
		w.put(w.message(w.own, c.Tag))
		w.to(c.To)
		w.stack = rest
	}
	if t.Timeout != never {
		w.to(t.Timeout)
	}
}
