package check

import (
	"slices"

	"callboy/api"
	"callboy/kinds"
)

// walk looks at the places of one actor of a right module. Its first error stays: behind it nothing is taken, put or gone to.
type walk struct {
	actors  []api.Actor
	own     int // the actor whose places are looked at
	shapes  [][]api.Type
	has     []bool            // whether a place has a shape
	waiting [api.MaxCode]bool // whether it has one, and is still to be looked at
	at      int               // the place that is looked at
	stack   []api.Type        // its shape, and then what its instruction makes of that
	err     api.Errno
}

// walkOf looks at all places that are reached, or at those ahead of the first error.
func walkOf(m api.Module, own int) *walk {
	size := len(m.Actors[own].Code)
	w := &walk{actors: m.Actors, own: own, shapes: make([][]api.Type, size), has: make([]bool, size)}
	w.to(0)
	for w.err == api.OK {
		at := slices.Index(w.waiting[:], true)
		if at < 0 {
			break
		}
		w.waiting[at] = false
		w.look(at)
	}
	return w
}

func (w *walk) look(at int) {
	w.at = at
	w.stack = slices.Clone(w.shapes[at])
	i := w.actors[w.own].Code[at]
	w.act(i)
	w.goOn(i)
}

// to goes to a place with what stands on the stack.
func (w *walk) to(place int) {
	switch {
	case w.err != api.OK:
	case place >= len(w.shapes):
		w.err = api.ErrJump
	case !w.has[place]:
		// A copy, for shapes are answered, and share no memory with one another.
		w.shapes[place] = slices.Clone(w.stack)
		w.has[place], w.waiting[place] = true, true
	case !kinds.Same(w.shapes[place], w.stack):
		w.err = api.ErrType
	}
}
