package ring_test

import (
	"math"
	"math/rand/v2"
	"slices"
	"strconv"
	"testing"

	"callboy/api"
	"callboy/ring"
)

// What is done to a ring.
const (
	put = iota
	push
	take
	pop
	calls
)

// answer is what a call answers; n is the number of the thing, 0 of the zero value.
type answer struct {
	err api.Errno
	n   int
	ok  bool
}

// row is a row of things told in the plainest way: a list and a bound.
type row struct {
	size int
	list []int
}

func (w *row) do(call, n int) answer {
	last := len(w.list) - 1
	switch call {
	case put, push:
		if last+1 == w.size {
			return answer{err: api.ErrFull}
		}
		if call == put {
			w.list = append(w.list, n)
		} else {
			w.list = slices.Insert(w.list, 0, n)
		}
		return answer{}
	}
	if last < 0 {
		return answer{}
	}
	if call == take {
		n, w.list = w.list[0], w.list[1:]
	} else {
		n, w.list = w.list[last], w.list[:last]
	}
	return answer{n: n, ok: true}
}

// kind leads from numbers above 0 to things of one type and back; the zero value's number is 0, that of anything else that isn't one of them -1.
type kind[T any] struct {
	of     func(n int) T
	number func(x T) int
}

// rig is a ring of some type, told by the numbers of its things.
type rig interface {
	do(call, n int) answer
	at(i int) (int, bool)
	all() (numbers, list []int)
	back() []int
	len() int
	size() int
}

type rigOf[T any] struct {
	kind kind[T]
	r    *ring.Ring[T]
}

func (g rigOf[T]) do(call, n int) answer {
	switch call {
	case put:
		return answer{err: g.r.Put(g.kind.of(n))}
	case push:
		return answer{err: g.r.Push(g.kind.of(n))}
	case take:
		x, ok := g.r.Take()
		return answer{n: g.kind.number(x), ok: ok}
	}
	x, ok := g.r.Pop()
	return answer{n: g.kind.number(x), ok: ok}
}

func (g rigOf[T]) at(i int) (int, bool) {
	x, ok := g.r.At(i)
	return g.kind.number(x), ok
}

func (g rigOf[T]) all() (numbers, list []int) {
	for i, x := range g.r.All() {
		numbers, list = append(numbers, i), append(list, g.kind.number(x))
	}
	return numbers, list
}

func (g rigOf[T]) back() []int {
	var list []int
	for x := range g.r.Back() {
		list = append(list, g.kind.number(x))
	}
	return list
}

func (g rigOf[T]) len() int { return g.r.Len() }

func (g rigOf[T]) size() int { return g.r.Size() }

// maker makes a rig with an empty ring of that size.
type maker struct {
	name string
	make func(size int) rig
}

func making[T any](name string, k kind[T]) maker {
	return maker{name, func(size int) rig { return rigOf[T]{k, ring.New[T](size)} }}
}

func same(n int) int { return n }

func numbers() maker { return making("numbers", kind[int]{same, same}) }

type card struct {
	name  string
	n     int64
	turns [3]bool
	next  *card
}

func cardOf(n int) card {
	return card{name: strconv.Itoa(n), n: int64(n), turns: [3]bool{n%2 == 0, true, n%3 == 0}}
}

func cardNumber(x card) int {
	switch {
	case x == card{}:
		return 0
	case x != cardOf(int(x.n)):
		return -1
	}
	return int(x.n)
}

func textNumber(x string) int {
	if x == "" {
		return 0
	}
	n, err := strconv.Atoi(x)
	if err != nil {
		return -1
	}
	return n
}

func anyNumber(x any) int {
	switch y := x.(type) {
	case nil:
		return 0
	case int:
		return y
	case string:
		return textNumber(y)
	}
	return -1
}

func anyOf(n int) any {
	if n%2 == 0 {
		return n
	}
	return strconv.Itoa(n)
}

func listNumber(x []int) int {
	if len(x) == 0 && x != nil {
		return -1
	}
	return len(x)
}

func ringOf(n int) *ring.Ring[int] {
	r := ring.New[int](1)
	r.Put(n)
	return r
}

func ringNumber(x *ring.Ring[int]) int {
	n, _ := x.At(0)
	return n
}

func funcNumber(f func() int) int {
	if f == nil {
		return 0
	}
	return f()
}

// makers are of types of all sorts: plain ones, made ones, and such as can't be compared.
func makers() []maker {
	return []maker{
		numbers(),
		making("texts", kind[string]{strconv.Itoa, textNumber}),
		making("structs", kind[card]{cardOf, cardNumber}),
		making("floats", kind[float64]{func(n int) float64 { return float64(n) / 8 }, func(x float64) int { return int(x * 8) }}),
		making("arrays", kind[[2]int]{func(n int) [2]int { return [2]int{n, -n} }, func(x [2]int) int { return (x[0] - x[1]) / 2 }}),
		making("pointers", kind[*card]{func(n int) *card { c := cardOf(n); return &c }, func(x *card) int {
			if x == nil {
				return 0
			}
			return cardNumber(*x)
		}}),
		making("lists", kind[[]int]{func(n int) []int { return make([]int, n) }, listNumber}),
		making("anything", kind[any]{anyOf, anyNumber}),
		making("functions", kind[func() int]{func(n int) func() int { return func() int { return n } }, funcNumber}),
		making("rings", kind[*ring.Ring[int]]{ringOf, ringNumber}),
		making("messages", kind[api.Msg]{func(n int) api.Msg { return api.Msg{Tag: n, N: 7} }, func(x api.Msg) int { return x.Tag }}),
	}
}

// holds asks all that can be asked of a ring, and leaves it as it is.
func holds(t *testing.T, name string, g rig, w row) {
	t.Helper()
	count := len(w.list)
	if g.len() != count || g.size() != w.size {
		t.Fatalf("%s: Len %d, Size %d, not %d, %d", name, g.len(), g.size(), count, w.size)
	}
	for i, want := range w.list {
		if n, ok := g.at(i); n != want || !ok {
			t.Fatalf("%s: At %d: %d %v, not %d", name, i, n, ok, want)
		}
	}
	for _, i := range []int{-1, -2, -w.size, -w.size - 1, count, count + 1, count + w.size, w.size, w.size + 1, math.MinInt, math.MaxInt} {
		if i >= 0 && i < count {
			continue
		}
		if n, ok := g.at(i); n != 0 || ok {
			t.Fatalf("%s: At %d: %d %v, not none", name, i, n, ok)
		}
	}
	numbers, list := g.all()
	if !slices.Equal(list, w.list) {
		t.Fatalf("%s: All: %v, not %v", name, list, w.list)
	}
	for i, n := range numbers {
		if i != n {
			t.Fatalf("%s: All has the numbers %v", name, numbers)
		}
	}
	back := g.back()
	slices.Reverse(back)
	if !slices.Equal(back, w.list) {
		t.Fatalf("%s: Back, turned: %v, not %v", name, back, w.list)
	}
}

// chance is the same at each run of the tests.
func chance(seed int) *rand.Rand { return rand.New(rand.NewPCG(7, uint64(seed))) }

// anyRow is a row of calls that now and then would rather fill a ring, now and then rather empty it.
func anyRow(c *rand.Rand, size, length int) []int {
	list := make([]int, 0, length)
	for len(list) < length {
		fill := c.IntN(2)
		for range 1 + c.IntN(2*size+2) {
			call := c.IntN(calls)
			if c.IntN(4) > 0 {
				call = call%2 + 2*fill
			}
			list = append(list, call)
		}
	}
	return list[:length]
}

// turned is a ring of that size, with so many things from 1 on, whose first one stands so many slots on.
func turned(m maker, size, count, by int) (rig, row) {
	g, w := m.make(size), row{size: size}
	for range by {
		g.do(put, 99)
		g.do(take, 0)
	}
	for n := range count {
		g.do(put, n+1)
		w.do(put, n+1)
	}
	return g, w
}
