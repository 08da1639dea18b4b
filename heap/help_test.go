package heap_test

import (
	"math"
	"math/rand/v2"
	"slices"
	"strconv"
	"testing"

	"callboy/api"
	"callboy/heap"
)

// What is done to a heap.
const (
	put = iota
	cancel
	pop
	next
	length
	calls
)

// call is one call: a Put of the thing n at the tick, a Cancel of the ticket n, a Pop at the tick.
type call struct {
	what int
	tick int64
	n    int
}

// answer is what a call answers; n is a ticket, a length, or the number of a thing, 0 of the zero value.
type answer struct {
	n    int
	tick int64
	ok   bool
}

// thing is one that is there.
type thing struct {
	tick   int64
	ticket int
	n      int
}

// pile is a heap told in the plainest way: a list in the order of the tickets, that is searched.
type pile struct {
	list []thing
	last int
}

// first is where the thing stands that is due first; -1, if none is there.
func (p *pile) first() int {
	at := -1
	for i, x := range p.list {
		if at < 0 || x.tick < p.list[at].tick {
			at = i
		}
	}
	return at
}

func (p *pile) do(c call) answer {
	at := p.first()
	switch c.what {
	case put:
		p.last++
		p.list = append(p.list, thing{c.tick, p.last, c.n})
		return answer{n: p.last}
	case cancel:
		for i, x := range p.list {
			if x.ticket == c.n {
				p.list = slices.Delete(p.list, i, i+1)
				return answer{ok: true}
			}
		}
		return answer{}
	case length:
		return answer{n: len(p.list)}
	}
	if at < 0 || c.what == pop && p.list[at].tick > c.tick {
		return answer{}
	}
	x := p.list[at]
	if c.what == next {
		return answer{tick: x.tick, ok: true}
	}
	p.list = slices.Delete(p.list, at, at+1)
	return answer{x.n, x.tick, true}
}

// due is all that is there, in the order in which it comes out.
func (p *pile) due() []thing {
	list := slices.Clone(p.list)
	// The list is in the order of the tickets, which a stable sort keeps within a tick.
	slices.SortStableFunc(list, func(a, b thing) int {
		switch {
		case a.tick < b.tick:
			return -1
		case a.tick > b.tick:
			return 1
		}
		return 0
	})
	return list
}

// kind leads from numbers above 0 to things of one type and back; the zero value's number is 0, that of anything else that isn't one of them -1.
type kind[T any] struct {
	of     func(n int) T
	number func(x T) int
}

// rig is a heap of some type, told by the numbers of its things.
type rig interface {
	do(c call) answer
	all() []thing // without tickets
}

type rigOf[T any] struct {
	kind kind[T]
	h    *heap.Heap[T]
}

func (g rigOf[T]) do(c call) answer {
	switch c.what {
	case put:
		return answer{n: g.h.Put(c.tick, g.kind.of(c.n))}
	case cancel:
		return answer{ok: g.h.Cancel(c.n)}
	case pop:
		x, tick, ok := g.h.Pop(c.tick)
		return answer{g.kind.number(x), tick, ok}
	case next:
		tick, ok := g.h.Next()
		return answer{tick: tick, ok: ok}
	}
	return answer{n: g.h.Len()}
}

func (g rigOf[T]) all() []thing {
	var list []thing
	for tick, x := range g.h.All() {
		list = append(list, thing{tick: tick, n: g.kind.number(x)})
	}
	return list
}

// maker makes a rig with an empty heap.
type maker struct {
	name string
	make func() rig
}

func making[T any](name string, k kind[T]) maker {
	return maker{name, func() rig { return rigOf[T]{k, heap.New[T]()} }}
}

func same(n int) int { return n }

func numbers() rig { return rigOf[int]{kind[int]{same, same}, heap.New[int]()} }

type card struct {
	name  string
	n     int64
	turns [3]bool
	next  *card
}

func cardOf(n int) card {
	return card{name: strconv.Itoa(n), n: int64(n), turns: [3]bool{n%2 == 0, true, n%3 == 0}}
}

func cardNumber(x card) int {
	switch {
	case x == card{}:
		return 0
	case x != cardOf(int(x.n)):
		return -1
	}
	return int(x.n)
}

func textNumber(x string) int {
	if x == "" {
		return 0
	}
	n, err := strconv.Atoi(x)
	if err != nil {
		return -1
	}
	return n
}

func pointerOf(n int) *card {
	c := cardOf(n)
	return &c
}

func pointerNumber(x *card) int {
	if x == nil {
		return 0
	}
	return cardNumber(*x)
}

func listNumber(x []int) int {
	if len(x) == 0 && x != nil {
		return -1
	}
	return len(x)
}

func anyOf(n int) any {
	if n%2 == 0 {
		return n
	}
	return strconv.Itoa(n)
}

func anyNumber(x any) int {
	switch y := x.(type) {
	case nil:
		return 0
	case int:
		return y
	case string:
		return textNumber(y)
	}
	return -1
}

func funcNumber(f func() int) int {
	if f == nil {
		return 0
	}
	return f()
}

func heapOf(n int) *heap.Heap[int] {
	h := heap.New[int]()
	h.Put(int64(n), 0)
	return h
}

func heapNumber(x *heap.Heap[int]) int {
	tick, _ := x.Next()
	return int(tick)
}

// makers are of types of all sorts: plain ones, made ones, and such as can't be compared.
func makers() []maker {
	return []maker{
		making("numbers", kind[int]{same, same}),
		making("texts", kind[string]{strconv.Itoa, textNumber}),
		making("structs", kind[card]{cardOf, cardNumber}),
		making("floats", kind[float64]{func(n int) float64 { return float64(n) / 8 }, func(x float64) int { return int(x * 8) }}),
		making("arrays", kind[[2]int]{func(n int) [2]int { return [2]int{n, -n} }, func(x [2]int) int { return (x[0] - x[1]) / 2 }}),
		making("pointers", kind[*card]{pointerOf, pointerNumber}),
		making("lists", kind[[]int]{func(n int) []int { return make([]int, n) }, listNumber}),
		making("anything", kind[any]{anyOf, anyNumber}),
		making("functions", kind[func() int]{func(n int) func() int { return func() int { return n } }, funcNumber}),
		making("heaps", kind[*heap.Heap[int]]{heapOf, heapNumber}),
		making("messages", kind[api.Msg]{func(n int) api.Msg { return api.Msg{Tag: n, N: 7} }, func(x api.Msg) int { return x.Tag }}),
	}
}

// wrongTickets are those that were never given, where so many were.
func wrongTickets(given int) []int {
	return []int{0, -1, -2, -given, -given - 1, given + 1, given + 2, 1<<32 + 1, -1<<32 + 1, math.MinInt, math.MinInt + 1, math.MaxInt - 1, math.MaxInt}
}

// holds asks all that can be asked of a heap, and leaves it as it is.
func holds(t *testing.T, name string, g rig, p pile) {
	t.Helper()
	for _, what := range []int{next, length} {
		c := call{what: what}
		if got, want := g.do(c), p.do(c); got != want {
			t.Fatalf("%s: the call %d: %v, not %v", name, what, got, want)
		}
	}
	var want []thing
	for _, x := range p.due() {
		want = append(want, thing{tick: x.tick, n: x.n})
	}
	if got := g.all(); !slices.Equal(got, want) {
		t.Fatalf("%s: All: %v, not %v", name, got, want)
	}
}

// drains pops all of it, and holds each against the pile.
func drains(t *testing.T, name string, g rig, p pile) {
	t.Helper()
	for _, x := range p.due() {
		if x.tick > math.MinInt64 {
			if got := g.do(call{what: pop, tick: x.tick - 1}); got != (answer{}) {
				t.Fatalf("%s: %v at %d already", name, got, x.tick-1)
			}
		}
		if got, want := g.do(call{what: pop, tick: x.tick}), (answer{x.n, x.tick, true}); got != want {
			t.Fatalf("%s: %v, not %v", name, got, want)
		}
	}
	holds(t, name+", drained", g, pile{})
	if got := g.do(call{what: pop, tick: math.MaxInt64}); got != (answer{}) {
		t.Fatalf("%s: %v of none", name, got)
	}
}

// filled has the things 1, 2 and so on at these ticks; a thing's number is its ticket.
func filled(g rig, ticks ...int64) (rig, pile) {
	var p pile
	for i, tick := range ticks {
		c := call{put, tick, i + 1}
		g.do(c)
		p.do(c)
	}
	return g, p
}

// both does a call to a heap and to a pile, and holds the answers against each other.
func both(t *testing.T, name string, g rig, p *pile, c call) answer {
	t.Helper()
	got, want := g.do(c), p.do(c)
	if got != want {
		t.Fatalf("%s: %v answers %v, not %v", name, c, got, want)
	}
	return got
}

// chance is the same at each run of the tests.
func chance(seed int) *rand.Rand { return rand.New(rand.NewPCG(8, uint64(seed))) }

// anyCall is a call that would rather put, if fill says so, and rather cancel and pop, if not.
func anyCall(c *rand.Rand, fill bool, p *pile, ticks int64, n int) call {
	x := call{what: c.IntN(calls), tick: c.Int64N(2*ticks+1) - ticks, n: n}
	if fill && c.IntN(3) > 0 {
		x.what = put
	}
	if x.what != cancel {
		return x
	}
	x.n = 1 + c.IntN(p.last+1)
	if len(p.list) > 0 && c.IntN(4) > 0 {
		x.n = p.list[c.IntN(len(p.list))].ticket
	}
	return x
}
