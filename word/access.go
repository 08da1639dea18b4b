package word

// What an operation came to.
const (
	notOver = -1
	ok      = 0
	push    = 1
	again   = 2
	gone    = 3
)

// access is one access to the word; it tells what its operation came to and, if that isn't over, the next access.
type access func(w *Word) (int, access)

// firstAccess is that of a thread's operation, nil if the op isn't one of the thread's.
func firstAccess(thread, op int) access {
	switch {
	case thread != holder && op == wake:
		return wakeReads
	case thread != holder:
		return nil
	}
	switch op {
	case start:
		return startIfQueued
	case sleep:
		return sleepIfRunning
	case yield:
		return yieldOnce
	case die:
		return dieOnce
	}
	return nil
}

// change writes to, if the word is from, as one access.
func (w *Word) change(from, to int) bool {
	if w.now != from {
		return false
	}
	w.now = to
	return true
}

func wakeReads(w *Word) (int, access) {
	switch w.now {
	case idle:
		return notOver, wakeChanges(idle, queued, push)
	case running:
		return notOver, wakeChanges(running, awake, ok)
	}
	return ok, nil
}

// wakeChanges makes a wake's second access, which knows what the first one has read.
func wakeChanges(from, to, came int) access {
	return func(w *Word) (int, access) {
		if w.change(from, to) {
			return came, nil
		}
		// Somebody was quicker, so what was read holds no longer.
		return notOver, wakeReads
	}
}

func startIfQueued(w *Word) (int, access) {
	if !w.change(queued, running) {
		return gone, nil
	}
	w.holds = true
	return ok, nil
}

func sleepIfRunning(w *Word) (int, access) {
	if !w.change(running, idle) {
		return notOver, goOnIfAwake
	}
	w.holds = false
	return ok, nil
}

func goOnIfAwake(w *Word) (int, access) {
	if w.change(awake, running) {
		return again, nil
	}
	return gone, nil
}

func yieldOnce(w *Word) (int, access) {
	w.holds = false
	if w.change(running, queued) || w.change(awake, queued) {
		return push, nil
	}
	return gone, nil
}

func dieOnce(w *Word) (int, access) {
	w.holds = false
	w.now = dead
	return ok, nil
}
