package mpsc

import "callboy/api"

// run is an operation under way, and what it knows from its accesses.
type run struct {
	at   int   // the number of the next access; 0: nothing is under way
	node *node // a Put's own; a Take's is tail's next, as it was read
	head *node // as a Put has read it
}

// put does a Put's next access.
func (q *Queue) put(r *run) Done {
	switch r.at {
	case 1:
		r.node.next = nil
	case 2:
		// From here on till the next access, what lies behind the old head can't be come to from the tail.
		r.head, q.head = q.head, r.node
	case 3:
		r.head.next = r.node
		return r.over(Done{V: r.node.v})
	}
	r.at++
	return Done{}
}

// take does a Take's next access.
func (q *Queue) take(r *run) Done {
	switch {
	case r.at == 1:
		r.node = q.tail.next
		r.at++
		return Done{}
	case r.node != nil:
		q.tail = r.node
		return r.over(Done{Take: true, V: r.node.v})
	case q.head == q.tail:
		return r.over(Done{Take: true, Err: api.ErrEmpty})
	}
	return r.over(Done{Take: true, Err: api.ErrBusy})
}

// over ends the run with what it came to; nothing of it is kept.
func (r *run) over(d Done) Done {
	*r = run{}
	d.Over = true
	return d
}
