package deque

import "testing"

// What is over leaves nothing in its thread, so that the next operation begins as the first one did.
func TestNothingIsKept(t *testing.T) { // P9.1
	d := New(2)
	for k := range 60 {
		for thread, op := range []int{[]int{push, push, pop}[k%3], steal, steal} {
			d.Begin(thread, op, int64(7+k))
		}
		for n := range 18 {
			d.Step((n + k) % 3)
		}
		for thread := range d.threads {
			r := d.threads[thread]
			if d.Busy(thread) || r.next != nil || r.v != 0 || r.top != 0 || r.bottom != 0 || r.won {
				t.Fatalf("round %d, thread %d: %d %d %d %v", k, thread, r.v, r.top, r.bottom, r.won)
			}
		}
	}
}
