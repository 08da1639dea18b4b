package deque_test

import (
	"slices"
	"testing"

	"callboy/api"
	"callboy/deque"
)

// deed is an operation that a thread is to do.
type deed struct {
	op int
	v  int64
}

// play is what there is at first, and what each thread does, one deed after the other.
type play struct {
	name      string
	size, top int
	list      []int64
	deeds     [][]deed // by thread
}

// run goes through the play: at each step choose says which of the threads that aren't done is next.
func (p play) run(t *testing.T, choose func(n int) int) (*rig, []deque.Done) {
	t.Helper()
	g := turned(t, p.name, p.size, p.top, p.list...)
	left := slices.Clone(p.deeds)
	var told []deque.Done
	for {
		var able []int
		for thread, deeds := range left {
			if len(deeds) > 0 {
				able = append(able, thread)
			}
		}
		if len(able) == 0 {
			return g, told
		}
		thread := able[choose(len(able))]
		if deed := left[thread][0]; !g.d.Busy(thread) {
			g.begin(t, p.name, thread, deed.op, deed.v)
		}
		if x := g.step(t, p.name, thread, 1); x.Over {
			left[thread] = left[thread][1:]
			told = append(told, x)
		}
	}
}

// every goes through a play at each interleaving that there is, and tells how many those are.
func (p play) every(t *testing.T, look func(g *rig, told []deque.Done)) int {
	t.Helper()
	var chosen, among []int
	for count := 1; ; count++ {
		at := 0
		g, told := p.run(t, func(n int) int {
			if at == len(chosen) {
				chosen, among = append(chosen, 0), append(among, n)
			}
			at++
			return chosen[at-1]
		})
		look(g, told)
		for len(chosen) > 0 && chosen[len(chosen)-1] == among[len(among)-1]-1 {
			chosen, among = chosen[:len(chosen)-1], among[:len(among)-1]
		}
		if len(chosen) == 0 {
			return count
		}
		chosen[len(chosen)-1]++
	}
}

// cameOut is what came out, sorted.
func cameOut(told []deque.Done) []int64 {
	var list []int64
	for _, x := range told {
		if x.Op != push && x.Err == api.OK {
			list = append(list, x.V)
		}
	}
	slices.Sort(list)
	return list
}

// The one thing that is left: one has it, whoever runs for it, and the others come too late.
func TestOneThingIsHadByOne(t *testing.T) { // P9.2, P9.3
	aSteal, aPop := []deed{{steal, 0}}, []deed{{pop, 0}}
	for _, p := range []play{
		{"the owner", 2, 0, []int64{5}, [][]deed{aPop}},
		{"a thief", 2, 1, []int64{5}, [][]deed{nil, aSteal}},
		{"two thieves", 2, 3, []int64{5}, [][]deed{nil, aSteal, aSteal}},
		{"three thieves", 1, 1, []int64{5}, [][]deed{nil, aSteal, aSteal, aSteal}},
		{"the owner and a thief", 1, 0, []int64{5}, [][]deed{aPop, aSteal}},
		{"the owner and another thief", 3, 2, []int64{5}, [][]deed{aPop, nil, nil, nil, nil, nil, nil, aSteal}},
		{"the owner and two thieves", 1, 4, []int64{5}, [][]deed{aPop, aSteal, aSteal}},
		{"the owner twice and a thief", 2, 0, []int64{5}, [][]deed{{{pop, 0}, {pop, 0}}, aSteal}},
		{"the owner and a thief twice", 2, 3, []int64{5}, [][]deed{aPop, {{steal, 0}, {steal, 0}}}},
	} {
		most := 0
		p.every(t, func(g *rig, told []deque.Done) {
			have := 0
			for _, x := range told {
				switch {
				case x.Err == api.OK && x.V == 5:
					have++
				case x.V != 0 || x.Err != api.ErrEmpty && (x.Op == pop || x.Err != api.ErrTaken):
					t.Fatalf("%s: %v", p.name, told)
				}
			}
			if have != 1 || len(g.d.Items()) != 0 {
				t.Fatalf("%s: %d have it: %v, and there is %v", p.name, have, told, g.d.Items())
			}
			most = max(most, len(told))
		})
		if count := len(slices.Concat(p.deeds...)); most != count {
			t.Errorf("%s: %d of %d", p.name, most, count)
		}
	}
}

// How many interleavings there are of so many accesses is known; the walk leaves none out.
func TestWalkLeavesNoneOut(t *testing.T) { // P9.3
	full := play{"two full Steals and a Push", 8, 0, []int64{1, 2, 3, 4, 5}, [][]deed{{{push, 6}}, {{steal, 0}}, {{steal, 0}}}}
	if n := full.every(t, func(*rig, []deque.Done) {}); n != 34650 {
		t.Error(n) // 12! / (4! 4! 4!)
	}
	one := play{"a Pop and a Steal", 8, 0, []int64{1, 2, 3}, [][]deed{{{pop, 0}}, {{steal, 0}}}}
	if n := one.every(t, func(*rig, []deque.Done) {}); n != 70 {
		t.Error(n) // 8! / (4! 4!)
	}
}

// Short plays at every interleaving: nothing is lost, nothing comes out twice, what is left stands in order.
func TestEveryInterleaving(t *testing.T) { // P9.1, P9.2, P9.3
	aSteal, two := []deed{{steal, 0}}, []deed{{steal, 0}, {steal, 0}}
	for _, x := range []struct {
		owner   []deed
		thieves [][]deed
	}{
		{[]deed{{pop, 0}}, [][]deed{aSteal, aSteal}},
		{[]deed{{push, 9}}, [][]deed{aSteal, aSteal}},
		{[]deed{{push, 9}, {pop, 0}}, [][]deed{aSteal}},
		{[]deed{{pop, 0}, {push, 9}}, [][]deed{two}},
		{[]deed{{pop, 0}, {pop, 0}}, [][]deed{aSteal}},
		{[]deed{{push, 9}, {push, 10}}, [][]deed{two}},
		{[]deed{{pop, 0}, {pop, 0}, {push, 9}}, [][]deed{aSteal}},
	} {
		// Two thieves more than double what there is to see, and to wait for.
		for size := 1; size <= 4-len(x.thieves); size++ {
			for things := range size + 1 {
				p := play{"every", size, size - 1, []int64{20, 21, 22}[:things], append([][]deed{x.owner}, x.thieves...)}
				p.every(t, func(g *rig, told []deque.Done) {
					want := slices.Clone(p.list)
					for _, y := range told {
						if y.Op == push && y.Err == api.OK {
							want = append(want, y.V)
						}
					}
					got := append(cameOut(told), g.d.Items()...)
					slices.Sort(want)
					slices.Sort(got)
					if !slices.Equal(got, want) {
						t.Fatalf("size %d, %v: pushed %v, but %v came out or is there: %v", size, p.list, want, got, told)
					}
				})
			}
		}
	}
}

// brief is all that tells two states of a deque with few places, and what is to come, apart.
type brief struct {
	top, bottom int
	places      [3]int64
	turns       [3]turn
	list        [4]int64
	length      int
	left        [3]int
}

// node is a state that was come to from another one by a call.
type node struct {
	from int
	call act
	left [3]int // how many Begins each thread may still do
}

// walk goes through all the states that a deque can come to by three threads with so many Begins.
type walk struct {
	size  int
	nodes []node
	seen  map[brief]bool
	edges int
}

// back is the deque at a node, done anew.
func (w *walk) back(at int) *rig {
	var calls []act
	for n := at; n > 0; n = w.nodes[n].from {
		calls = append(calls, w.nodes[n].call)
	}
	g := rigOf(w.size)
	for _, a := range slices.Backward(calls) {
		g.quietly(a)
	}
	return g
}

// from does a call at a node, and keeps what that leads to, if it is new.
func (w *walk) from(t *testing.T, at int, a act) {
	t.Helper()
	g := w.back(at)
	if x := g.does(t, "the walk", a); x.err != api.OK {
		t.Fatalf("%v: %v", a, x)
	}
	w.edges++
	left := w.nodes[at].left
	if !a.step {
		left[a.thread]--
	}
	b := brief{top: g.m.top, bottom: g.m.bottom, left: left}
	copy(b.places[:], g.m.places[:])
	copy(b.turns[:], g.m.turns[:])
	b.length = copy(b.list[:], g.l.list)
	if !w.seen[b] {
		w.seen[b] = true
		w.nodes = append(w.nodes, node{at, a, left})
	}
}

// all goes on till there is nothing new.
func (w *walk) all(t *testing.T) {
	t.Helper()
	for at := 0; at < len(w.nodes); at++ {
		g, left := w.back(at), w.nodes[at].left
		for thread := range 3 {
			switch {
			case g.d.Busy(thread):
				w.from(t, at, act{step: true, thread: thread})
			case left[thread] == 0:
			case thread == 0:
				w.from(t, at, act{op: push, v: int64(10 + left[0])})
				w.from(t, at, act{op: pop})
			default:
				w.from(t, at, act{thread: thread, op: steal})
			}
		}
	}
}

// Every state that few Begins lead to, and every call from there.
func TestEveryState(t *testing.T) { // P9.1, P9.2, P9.3
	for _, x := range []struct {
		size   int
		begins [3]int
	}{
		{1, [3]int{4, 2, 1}}, {2, [3]int{4, 1, 1}}, {2, [3]int{5, 2, 0}}, {3, [3]int{6, 1, 0}},
	} {
		w := &walk{size: x.size, nodes: []node{{left: x.begins}}, seen: map[brief]bool{}}
		w.all(t)
		if w.edges < 8000 {
			t.Errorf("size %d, %v: only %d states and %d calls", x.size, x.begins, len(w.nodes), w.edges)
		}
	}
}
