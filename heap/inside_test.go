package heap

import "testing"

// What came out or was cancelled isn't held by a heap any more, so that its memory can go.
func TestNothingIsKept(t *testing.T) { // R4
	h := New[*int]()
	for k := range 60 {
		h.Put(int64(k*k%11), &k)
		h.Put(int64(k*k%7), &k)
		switch k % 3 {
		case 0:
			h.Pop(11)
		case 1:
			h.Cancel(k)
		}
		held := 0
		for _, e := range h.list[:cap(h.list)] {
			if e.thing != nil {
				held++
			}
		}
		if held != h.Len() || len(h.places) != h.Len() {
			t.Fatalf("round %d: %d things and %d places, of %d", k, held, len(h.places), h.Len())
		}
	}
}
