package deque

import "callboy/api"

// access is one access to the shared words; it leaves the run's next one, or ends the run.
type access func(d *Deque, r *run) Done

// run is an operation under way, and what it knows from its accesses.
type run struct {
	next   access // nil: nothing is under way
	v      int64  // what is to be pushed, or what stood in the place
	top    int    // as it was read
	bottom int    // as it was read; a Pop's is one less
	won    bool   // a Pop of the one thing that was left wrote top ahead of all thieves
}

// firstAccess is that of a thread's operation, nil if the op isn't one of the thread's.
func firstAccess(thread, op int) access {
	switch {
	case thread == owner && op == push:
		return pushReadsBottom
	case thread == owner && op == pop:
		return popReadsBottom
	case thread != owner && op == steal:
		return stealReadsTop
	}
	return nil
}

// then leaves the next access.
func (r *run) then(next access) Done {
	r.next = next
	return Done{}
}

// over ends the run; nothing of it is kept.
func (r *run) over(op int, v int64, err api.Errno) Done {
	*r = run{}
	return Done{true, op, v, err}
}

func pushReadsBottom(d *Deque, r *run) Done {
	r.bottom = d.bottom
	return r.then(pushReadsTop)
}

func pushReadsTop(d *Deque, r *run) Done {
	if r.bottom-d.top >= d.Size() {
		return r.over(push, r.v, api.ErrFull)
	}
	return r.then(pushWritesPlace)
}

func pushWritesPlace(d *Deque, r *run) Done {
	*d.place(r.bottom) = r.v
	return r.then(pushWritesBottom)
}

func pushWritesBottom(d *Deque, r *run) Done {
	d.bottom = r.bottom + 1
	return r.over(push, r.v, api.OK)
}

func popReadsBottom(d *Deque, r *run) Done {
	r.bottom = d.bottom - 1
	return r.then(popWritesBottom)
}

func popWritesBottom(d *Deque, r *run) Done {
	d.bottom = r.bottom
	return r.then(popReadsTop)
}

func popReadsTop(d *Deque, r *run) Done {
	r.top = d.top
	if r.top > r.bottom {
		return r.then(popPutsBottomBack)
	}
	return r.then(popReadsPlace)
}

func popReadsPlace(d *Deque, r *run) Done {
	r.v = *d.place(r.bottom)
	if r.top < r.bottom {
		// Whichever thief comes as far as this one reads bottom only now, and finds nothing.
		return r.over(pop, r.v, api.OK)
	}
	return r.then(popWritesTop)
}

func popWritesTop(d *Deque, r *run) Done {
	r.won = d.moveTop(r.top)
	return r.then(popPutsBottomBack)
}

func popPutsBottomBack(d *Deque, r *run) Done {
	d.bottom = r.bottom + 1
	if r.won {
		return r.over(pop, r.v, api.OK)
	}
	return r.over(pop, 0, api.ErrEmpty)
}

func stealReadsTop(d *Deque, r *run) Done {
	r.top = d.top
	return r.then(stealReadsBottom)
}

func stealReadsBottom(d *Deque, r *run) Done {
	if r.top >= d.bottom {
		return r.over(steal, 0, api.ErrEmpty)
	}
	return r.then(stealReadsPlace)
}

func stealReadsPlace(d *Deque, r *run) Done {
	r.v = *d.place(r.top)
	return r.then(stealWritesTop)
}

func stealWritesTop(d *Deque, r *run) Done {
	if d.moveTop(r.top) {
		return r.over(steal, r.v, api.OK)
	}
	return r.over(steal, 0, api.ErrTaken)
}

// moveTop moves top on if it is still what somebody has read, as one access.
func (d *Deque) moveTop(read int) bool {
	if d.top != read {
		return false
	}
	d.top++
	return true
}
