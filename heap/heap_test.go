package heap_test

import (
	"math"
	"slices"
	"strconv"
	"testing"

	"callboy/heap"
)

func TestExample(t *testing.T) { // P8.1
	h := heap.New[string]()
	if a, b, c := h.Put(5, "a"), h.Put(3, "b"), h.Put(5, "c"); a != 1 || b != 2 || c != 3 {
		t.Error("Put:", a, b, c)
	}
	if x, tick, ok := h.Pop(4); x != "b" || tick != 3 || !ok {
		t.Error("Pop of 4:", x, tick, ok)
	}
	if x, tick, ok := h.Pop(4); x != "" || tick != 0 || ok {
		t.Error("Pop of 4 again:", x, tick, ok)
	}
	if !h.Cancel(1) {
		t.Error("Cancel 1")
	}
	if x, tick, ok := h.Pop(9); x != "c" || tick != 5 || !ok {
		t.Error("Pop of 9:", x, tick, ok)
	}
	if h.Len() != 0 {
		t.Error("Len:", h.Len())
	}
}

// Every row of up to six calls out of these, so that what a call leaves is met by each other one.
func TestEveryShortRow(t *testing.T) { // P8.1
	some := []call{
		{put, 0, 0}, {put, 1, 0}, {put, 2, 0},
		{cancel, 0, 1}, {cancel, 0, 2}, {cancel, 0, 3},
		{pop, 0, 0}, {pop, 1, 0}, {pop, 2, 0},
	}
	rows := 1
	for size := range 7 {
		for code := range rows {
			g, p := numbers(), pile{}
			for k, rest := 0, code; k < size; k, rest = k+1, rest/len(some) {
				c := some[rest%len(some)]
				if c.what == put {
					c.n = 10 + k
				}
				both(t, "a short row", g, &p, c)
			}
			holds(t, "a short row", g, p)
		}
		rows *= len(some)
	}
}

func TestLongRows(t *testing.T) { // P8.1
	for seed, ticks := range []int64{0, 1, 2, 10, 100, 5000, math.MaxInt32, math.MaxInt64 / 4} {
		for _, turn := range []int{3, 20, 300} {
			c := chance(10*seed + turn)
			g, p := numbers(), pile{}
			most := 0
			for k := range 6000 {
				both(t, "a long row", g, &p, anyCall(c, k/turn%2 == 0, &p, ticks, k+1))
				most = max(most, len(p.list))
				if k%61 == 0 {
					holds(t, "a long row", g, p)
				}
			}
			if most < turn/3 {
				t.Errorf("ticks %d: never above %d", ticks, most)
			}
			drains(t, "a long row", g, p)
		}
	}
}

func TestTicketsCountOn(t *testing.T) { // P8.1
	h := heap.New[int]()
	for want := 1; want <= 500; want++ {
		if got := h.Put(int64(want%7), want); got != want {
			t.Fatalf("the ticket %d, not %d", got, want)
		}
		switch want % 3 {
		case 0:
			h.Cancel(want)
		case 1:
			h.Pop(7)
		}
	}
	for h.Len() > 0 {
		h.Pop(7)
	}
	if got := h.Put(0, 0); got != 501 {
		t.Error("behind an empty heap:", got)
	}
}

// An empty heap, one that became empty by Pop, one by Cancel.
func TestEmptyOnes(t *testing.T) { // P8.1
	for _, m := range makers() {
		for how := range 3 {
			g, p := m.make(), pile{}
			for k := range how * 2 {
				both(t, m.name, g, &p, call{put, 4, k + 1})
				both(t, m.name, g, &p, [3]call{{}, {cancel, 0, k + 1}, {pop, 4, 0}}[how])
			}
			for _, now := range []int64{math.MinInt64, -1, 0, 1, 4, math.MaxInt64} {
				both(t, m.name, g, &p, call{pop, now, 0})
			}
			for _, ticket := range wrongTickets(p.last) {
				both(t, m.name, g, &p, call{cancel, 0, ticket})
			}
			holds(t, m.name, g, p)
			both(t, m.name, g, &p, call{put, -3, 9})
			holds(t, m.name, g, p)
		}
	}
}

// One thing, at the least and the greatest tick and between; a Pop just below it, at it and above it.
func TestOneThing(t *testing.T) { // P8.1
	ticks := []int64{math.MinInt64, math.MinInt64 + 1, math.MinInt32 - 1, -1 << 32, -2, -1, 0, 1, 2, 1 << 32, 1 << 40, math.MaxInt64 - 1, math.MaxInt64}
	for _, tick := range ticks {
		for _, now := range append(ticks, tick-1, tick, tick+1) {
			g, p := filled(numbers(), tick)
			holds(t, "one", g, p)
			if got := both(t, "one", g, &p, call{pop, now, 0}); got.ok != (tick <= now) {
				t.Errorf("Pop of %d with one at %d: %v", now, tick, got)
			}
			holds(t, "one popped", g, p)
			both(t, "one", g, &p, call{cancel, 0, 1})
			holds(t, "one cancelled", g, p)
		}
	}
}

// Ticks so far from each other that their difference leaves 64 bits.
func TestFarTicks(t *testing.T) { // P8.1, P8.2
	far := []int64{math.MaxInt64, math.MinInt64, 0, math.MinInt64 + 1, math.MaxInt64 - 1, -1, 1, math.MinInt64, math.MaxInt64, 1 << 32, -1 << 32, math.MaxInt32, math.MinInt32}
	for by := range far {
		g, p := filled(numbers(), append(slices.Clone(far[by:]), far[:by]...)...)
		holds(t, "far", g, p)
		drains(t, "far", g, p)
	}
}

// A Pop that is too early changes nothing.
func TestPopTooEarly(t *testing.T) { // P8.1
	g, p := filled(numbers(), 9, 7, 8, 7, 12)
	for _, now := range []int64{math.MinInt64, -7, 0, 6} {
		for range 3 {
			if got := both(t, "early", g, &p, call{pop, now, 0}); got != (answer{}) {
				t.Errorf("Pop of %d: %v", now, got)
			}
			holds(t, "early", g, p)
		}
	}
	drains(t, "early", g, p)
}

// order is a way in which ticks come.
type order struct {
	name string
	tick func(k int) int64
}

func orders() []order {
	c := chance(77)
	return []order{
		{"one tick", func(k int) int64 { return 5 }},
		{"rising", func(k int) int64 { return int64(k) }},
		{"falling", func(k int) int64 { return int64(-k) }},
		{"rising in pairs", func(k int) int64 { return int64(k / 2) }},
		{"falling in threes", func(k int) int64 { return int64(-k / 3) }},
		{"to and fro", func(k int) int64 { return int64(k) * int64(1-k%2*2) }},
		{"few", func(k int) int64 { return int64(k * k % 7) }},
		{"saw", func(k int) int64 { return int64(k % 13) }},
		{"any", func(k int) int64 { return int64(c.Uint64()) }},
		{"any of ten", func(k int) int64 { return c.Int64N(10) - 5 }},
	}
}

func TestComesOutByTicksAndTickets(t *testing.T) { // P8.2
	for _, o := range orders() {
		for _, size := range []int{0, 1, 2, 3, 4, 7, 8, 15, 16, 17, 100, 1000} {
			h := heap.New[int]()
			for k := range size {
				h.Put(o.tick(k), k+1)
			}
			var was thing
			count := 0
			for x, tick, ok := h.Pop(math.MaxInt64); ok; x, tick, ok = h.Pop(math.MaxInt64) {
				if count > 0 && (tick < was.tick || tick == was.tick && x <= was.ticket) {
					t.Fatalf("%s: the ticket %d of the tick %d behind %d of %d", o.name, x, tick, was.ticket, was.tick)
				}
				was = thing{tick: tick, ticket: x}
				count++
			}
			if count != size {
				t.Errorf("%s: %d of %d came out", o.name, count, size)
			}
		}
	}
}

// Some come out between those that are put: as long as nothing is put the ticks rise, and each thing comes out just once or was cancelled.
func TestOnceOrCancelled(t *testing.T) { // P8.2
	for seed := range 60 {
		c := chance(500 + seed)
		h := heap.New[int]()
		ticks, ends := []int64{0}, []int{1}
		for range 40 {
			for range c.IntN(30) {
				ticks, ends = append(ticks, c.Int64N(40)), append(ends, 0)
				h.Put(ticks[len(ticks)-1], len(ticks)-1)
			}
			for range c.IntN(8) {
				if ticket := c.IntN(len(ticks)); h.Cancel(ticket) {
					ends[ticket]++
				}
			}
			was, last := int64(-1), 0
			for range c.IntN(25) {
				x, tick, ok := h.Pop(int64(c.IntN(45)))
				if !ok {
					continue
				}
				if tick != ticks[x] || tick < was || tick == was && x < last {
					t.Fatalf("the ticket %d of %d behind %d of %d", x, tick, last, was)
				}
				was, last = tick, x
				ends[x]++
			}
		}
		for x, _, ok := h.Pop(45); ok; x, _, ok = h.Pop(45) {
			ends[x]++
		}
		if i := slices.IndexFunc(ends, func(n int) bool { return n != 1 }); i >= 0 || h.Len() != 0 {
			t.Fatalf("the ticket %d ended %d times, %d are left", i, ends[max(i, 0)], h.Len())
		}
	}
}

// Ticks in every order, and of them every choice cancelled: the others come out as if those had never been put.
func TestEveryChoiceCancelled(t *testing.T) { // P8.3
	for size := range 6 {
		rows := 1
		for range size {
			rows *= 4
		}
		for code := range rows {
			var ticks []int64
			for k := range size {
				ticks = append(ticks, int64(code>>(2*k)%4))
			}
			for choice := range 1 << size {
				g, p := filled(numbers(), ticks...)
				for k := range size {
					if choice>>k%2 == 1 {
						both(t, "cancelled", g, &p, call{cancel, 0, k + 1})
					}
				}
				holds(t, "cancelled", g, p)
				drains(t, "cancelled", g, p)
			}
		}
	}
}

// Any one of many cancelled: the others are as they were, down to their tickets.
func TestAnyOneCancelled(t *testing.T) { // P8.3
	for _, o := range orders() {
		for _, size := range []int{1, 2, 3, 10, 31, 32, 40} {
			var ticks []int64
			for k := range size {
				ticks = append(ticks, o.tick(k))
			}
			for ticket := 1; ticket <= size; ticket++ {
				g, p := filled(numbers(), ticks...)
				before := p.due()
				both(t, o.name, g, &p, call{cancel, 0, ticket})
				rest := slices.DeleteFunc(before, func(x thing) bool { return x.ticket == ticket })
				if !slices.Equal(p.due(), rest) {
					t.Fatalf("%s: %v, not %v", o.name, p.due(), rest)
				}
				holds(t, o.name, g, p)
				for _, other := range []int{1, size, size / 2} {
					both(t, o.name, g, &p, call{cancel, 0, other})
				}
				drains(t, o.name, g, p)
			}
		}
	}
}

// All of them cancelled, the first ones first, the last ones first, or in no order.
func TestAllCancelled(t *testing.T) { // P8.3
	for _, o := range orders() {
		for way := range 3 {
			var ticks []int64
			for k := range 70 {
				ticks = append(ticks, o.tick(k))
			}
			g, p := filled(numbers(), ticks...)
			tickets := chance(900 + way).Perm(70)
			if way < 2 {
				slices.Sort(tickets)
			}
			if way == 1 {
				slices.Reverse(tickets)
			}
			for _, ticket := range tickets {
				both(t, o.name, g, &p, call{cancel, 0, ticket + 1})
				holds(t, o.name, g, p)
			}
			if len(p.list) != 0 {
				t.Fatal("some are left")
			}
			both(t, o.name, g, &p, call{pop, math.MaxInt64, 0})
			both(t, o.name, g, &p, call{put, 1, 5})
			drains(t, o.name, g, p)
		}
	}
}

// The first one cancelled, again and again: Next and Pop go on with the one behind it.
func TestFirstCancelled(t *testing.T) { // P8.3
	g, p := filled(numbers(), 4, 1, 3, 1, 2, 4, 3)
	for len(p.list) > 0 {
		both(t, "the first", g, &p, call{cancel, 0, p.due()[0].ticket})
		holds(t, "the first", g, p)
		both(t, "the first", g, &p, call{pop, 1, 0})
	}
	g, p = filled(numbers(), 1, 9)
	both(t, "the early one", g, &p, call{cancel, 0, 1})
	if got := both(t, "the early one", g, &p, call{pop, 8, 0}); got.ok {
		t.Error("what is due at 9 came out at 8")
	}
}

// What isn't there can't be cancelled, and nothing changes.
func TestWrongTickets(t *testing.T) { // P8.1, P8.3
	for _, m := range makers() {
		g, p := filled(m.make(), 5, 3, 5, -7, 3, 8, 0)
		both(t, m.name, g, &p, call{pop, -7, 0})
		both(t, m.name, g, &p, call{pop, 4, 0})
		both(t, m.name, g, &p, call{cancel, 0, 2})
		both(t, m.name, g, &p, call{cancel, 0, 3})
		for _, ticket := range append(wrongTickets(7), 4, 7, 2, 3) {
			for range 2 {
				if got := both(t, m.name, g, &p, call{cancel, 0, ticket}); got.ok {
					t.Errorf("%s: Cancel %d", m.name, ticket)
				}
			}
			holds(t, m.name, g, p)
		}
		if got := both(t, m.name, g, &p, call{put, 0, 30}); got.n != 8 {
			t.Errorf("%s: then the ticket %d", m.name, got.n)
		}
		drains(t, m.name, g, p)
	}
}

// Heaps of all sorts side by side, step by step in one row, each of which answers as if it were alone.
func TestHeapsOfDifferentThings(t *testing.T) { // P8.1
	for seed, ticks := range []int64{0, 3, 50, math.MaxInt64 / 4} {
		c := chance(2000 + seed)
		var p pile
		var rigs []rig
		for _, m := range makers() {
			rigs = append(rigs, m.make())
		}
		for k := range 1500 {
			step := anyCall(c, k/40%2 == 0, &p, ticks, k%400+1)
			want := p.do(step)
			for j, m := range makers() {
				if got := rigs[j].do(step); got != want {
					t.Fatalf("%s, call %d: %v answers %v, not %v", m.name, k, step, got, want)
				}
				if k%31 == 0 {
					holds(t, m.name, rigs[j], p)
				}
			}
		}
	}
}

// Things of no size are told by their ticks alone.
func TestHeapOfNothings(t *testing.T) { // P8.1
	h := heap.New[struct{}]()
	for k, tick := range []int64{3, 1, 2, 1} {
		if got := h.Put(tick, struct{}{}); got != k+1 {
			t.Error("Put:", got)
		}
	}
	h.Cancel(3)
	for _, want := range []int64{1, 1, 3} {
		if _, tick, ok := h.Pop(3); tick != want || !ok {
			t.Error("Pop:", tick, ok)
		}
	}
}

// A zero value that was put is as good as any other thing, and so is one thing that was put twice.
func TestZeroValuesAndTwins(t *testing.T) { // P8.1
	h := heap.New[string]()
	if h.Put(0, "") != 1 || h.Put(0, "") != 2 || h.Put(0, "a") != 3 || h.Put(0, "a") != 4 || h.Len() != 4 {
		t.Error("Put", h.Len())
	}
	if tick, ok := h.Next(); tick != 0 || !ok {
		t.Error("Next", tick, ok)
	}
	if !h.Cancel(1) || !h.Cancel(3) || h.Len() != 2 {
		t.Error("Cancel", h.Len())
	}
	for _, want := range []string{"", "a"} {
		if x, tick, ok := h.Pop(0); x != want || tick != 0 || !ok {
			t.Error("Pop", x, tick, ok)
		}
	}
}

// Two heaps of one type have nothing to do with each other.
func TestTwoOfOneType(t *testing.T) { // P8.1
	a, p := filled(numbers(), 4, 2, 3)
	b, q := filled(numbers(), 1, 1)
	both(t, "one", a, &p, call{cancel, 0, 2})
	both(t, "the other", b, &q, call{pop, 1, 0})
	both(t, "one", a, &p, call{put, 0, 4})
	holds(t, "one", a, p)
	holds(t, "the other", b, q)
}

func TestManyThings(t *testing.T) { // P8.2, W0
	const many = 1 << 17
	h := heap.New[int]()
	for k := range many {
		h.Put(int64(k*7919%many), k+1)
	}
	for ticket := 2; ticket <= many; ticket += 2 {
		if !h.Cancel(ticket) {
			t.Fatal("Cancel", ticket)
		}
	}
	if h.Len() != many/2 {
		t.Fatal("Len", h.Len())
	}
	was := int64(-1)
	for h.Len() > 0 {
		x, tick, ok := h.Pop(many)
		if !ok || tick <= was || x%2 == 0 || int64((x-1)*7919%many) != tick {
			t.Fatal("Pop", x, tick, ok)
		}
		was = tick
	}
}

func TestNilHeap(t *testing.T) { // P8.1, W0, R7
	tryNil(t, 5, func(x int) bool { return x == 0 })
	tryNil(t, "a", func(x string) bool { return x == "" })
	tryNil(t, cardOf(3), func(x card) bool { return x == card{} })
	tryNil(t, []int{1}, func(x []int) bool { return x == nil })
	tryNil[any](t, 4, func(x any) bool { return x == nil })
}

func tryNil[T any](t *testing.T, x T, isZero func(T) bool) {
	t.Helper()
	var h *heap.Heap[T]
	for _, n := range []int{math.MinInt, -1, 0, 1, 2, math.MaxInt} {
		name := strconv.Itoa(n)
		if got := h.Put(int64(n), x); got != 0 {
			t.Errorf("%T: Put at %s: %d", x, name, got)
		}
		if h.Cancel(n) {
			t.Errorf("%T: Cancel %s", x, name)
		}
		if y, tick, ok := h.Pop(int64(n)); !isZero(y) || tick != 0 || ok {
			t.Errorf("%T: Pop of %s: %v %d %v", x, name, y, tick, ok)
		}
	}
	if tick, ok := h.Next(); tick != 0 || ok || h.Len() != 0 {
		t.Errorf("%T: Next, Len: %d %v %d", x, tick, ok, h.Len())
	}
	for range h.All() {
		t.Errorf("%T: All", x)
	}
}

// One that New didn't make is an empty heap as well, and nothing panics.
func TestHeapWithoutNew(t *testing.T) { // W0
	var h heap.Heap[int]
	g, p := rigOf[int]{kind[int]{same, same}, &h}, pile{}
	for _, c := range []call{{pop, 0, 0}, {cancel, 0, 0}, {cancel, 0, 1}, {next, 0, 0}, {length, 0, 0}} {
		both(t, "without New", g, &p, c)
	}
	holds(t, "without New", g, p)
	for k := range 5 {
		both(t, "without New", g, &p, call{put, int64(-k), k + 1})
	}
	both(t, "without New", g, &p, call{cancel, 0, 3})
	drains(t, "without New", g, p)
}
