package mpsc

import (
	"testing"

	"callboy/api"
)

// What is over leaves nothing in its thread, and what was taken isn't kept.
func TestNothingIsKept(t *testing.T) { // P10.1
	q := New()
	for k := range 60 {
		for thread := range api.MaxThreads {
			q.Begin(thread, int64(7+k))
		}
		for n := range 3 * api.MaxThreads {
			q.Step((n + k) % api.MaxThreads)
		}
		for range api.MaxThreads {
			q.Begin(taker, 0)
			q.Step(taker)
			q.Step(taker)
		}
		if q.head != q.tail || q.tail.next != nil || q.threads != [api.MaxThreads]run{} {
			t.Fatalf("round %d: %v", k, q.threads)
		}
	}
}
