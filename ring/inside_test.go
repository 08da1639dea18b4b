package ring

import "testing"

// What has left a ring isn't held by it any more, so that its memory can go.
func TestNothingIsKept(t *testing.T) { // R4
	r := New[*int](3)
	for k := range 20 {
		r.Put(&k)
		r.Push(&k)
		r.Put(&k)
		r.Take()
		r.Pop()
		if k%2 == 0 {
			r.Take()
		} else {
			r.Pop()
		}
		for i, p := range r.slots {
			if p != nil {
				t.Fatalf("round %d: the slot %d has one", k, i)
			}
		}
	}
}
