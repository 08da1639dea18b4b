package word_test

import (
	"iter"
	"slices"
	"testing"

	"callboy/api"
)

// sameAs is the tale as far as it matters which wakers there are at which access, but not who they are.
func sameAs(m tale) tale {
	slices.SortFunc(m.turns[1:], func(a, b turn) int { return (a.at*8 + a.read) - (b.at*8 + b.read) })
	return m
}

// played is a rig that did all of a path.
func played(t *testing.T, path []act) *rig {
	g := rigOf()
	for _, a := range path {
		g.does(t, a)
	}
	return g
}

func allActs() []act {
	var list []act
	for thread := -1; thread <= threads; thread++ {
		list = append(list, act{step: true, thread: thread})
		for op := -1; op <= 5; op++ {
			list = append(list, act{thread: thread, op: op})
		}
	}
	return list
}

// Whatever the holder and seven wakers can have come to, each call that can be made there answers as the chapter says.
func TestEveryCallEverywhere(t *testing.T) { // P11.1, P11.2, P11.3
	seen := map[tale]bool{*taleOf(): true}
	paths, acts := [][]act{nil}, allActs()
	for n := 0; n < len(paths); n++ {
		path := paths[n]
		g := played(t, path)
		for _, a := range acts {
			if g.does(t, a).err != api.OK {
				continue // nothing has changed
			}
			if key := sameAs(*g.m); !seen[key] {
				seen[key] = true
				paths = append(paths, append(slices.Clip(path), a))
			}
			g = played(t, path)
		}
	}
	// Each waker has nothing under way, or an access 1 ahead of it, or an access 2 behind Idle or behind Running: 120 ways in all. The holder has nothing under way, or a Start, while the word is Idle, Queued or Dead; nothing or one of three operations while it is Running, one more while it is Awake.
	// But not all seven are at an access 2 while it is Awake (who made it so isn't), and not all seven have read Idle while it is something else (who changed that hasn't).
	if want := 120*(3*2+4+5) - 8*5 - (2*2 + 4); len(seen) != want {
		t.Errorf("%d, not %d", len(seen), want)
	}
}

// rows gives every order in which each thread has so many steps; one list serves for all.
func rows(steps ...int) iter.Seq[[]int] {
	return func(yield func([]int) bool) {
		var row []int
		for thread, n := range steps {
			row = append(row, slices.Repeat([]int{thread}, n)...)
		}
		for more := true; more && yield(row); {
			more = toNext(row)
		}
	}
}

// toNext makes of a row the one that comes behind it in the order of lists, if there is one.
func toNext(row []int) bool {
	for i := len(row) - 2; i >= 0; i-- {
		if row[i] >= row[i+1] {
			continue
		}
		rest := row[i+1:]
		slices.Reverse(rest)
		j := slices.IndexFunc(rest, func(x int) bool { return x > row[i] })
		row[i], rest[j] = rest[j], row[i]
		return true
	}
	return false
}

// How many orders there are is known.
func TestRowsLeaveNoneOut(t *testing.T) { // P11.2
	for _, x := range []struct {
		steps []int
		want  int
	}{
		{[]int{2}, 1}, {[]int{2, 3}, 10}, {[]int{0, 3, 3}, 20}, {[]int{2, 3, 3}, 560}, {[]int{1, 1, 1, 1, 1, 1, 1}, 5040},
	} {
		seen, last := 0, []int(nil)
		for row := range rows(x.steps...) {
			if slices.Compare(row, last) <= 0 {
				t.Fatal(row, "behind", last)
			}
			seen, last = seen+1, slices.Clone(row)
		}
		if seen != x.want {
			t.Errorf("%v: %d", x.steps, seen)
		}
	}
}

// play is a rig whose holder does a list of things while it holds, again and again, and starts whenever it doesn't.
type play struct {
	*rig
	habit []int
	done  int // how much of the list was begun
}

func (p *play) begins(t *testing.T, thread int) {
	switch {
	case thread != holder:
		p.begin(t, thread, wake)
	case !p.w.Holds():
		p.begin(t, thread, start)
	default:
		p.begin(t, thread, p.habit[p.done%len(p.habit)])
		p.done++
	}
}

// next is a thread's next step; if it has nothing under way, it begins ahead of that.
func (p *play) next(t *testing.T, thread int) int {
	if !p.w.Busy(thread) {
		p.begins(t, thread)
	}
	return p.step(t, thread)
}

// The holder and some wakers, at every interleaving of their accesses.
func TestEveryInterleaving(t *testing.T) { // P11.1, P11.2, P11.3
	for _, x := range []struct {
		now   int
		habit []int
		steps []int
	}{
		{queued, []int{sleep}, []int{9, 6}}, {idle, []int{sleep}, []int{5, 3, 3}}, {running, []int{sleep}, []int{4, 4, 4}}, {awake, []int{sleep}, []int{6, 4, 2}},
		{running, []int{sleep, yield}, []int{5, 4, 3}}, {queued, []int{yield, sleep}, []int{6, 4, 2}}, {idle, []int{sleep, die}, []int{5, 4, 3}}, {queued, []int{yield, sleep, die}, []int{8, 4}},
		{running, []int{sleep, sleep, die}, []int{4, 2, 2, 2}}, {idle, []int{sleep}, []int{3, 0, 2, 0, 0, 3, 0, 2}}, {idle, []int{sleep}, []int{0, 2, 2, 2, 2}}, {running, []int{die}, []int{2, 3, 0, 3, 3}},
		{dead, []int{sleep}, []int{3, 3, 3}},
	} {
		for _, early := range []bool{false, true} {
			for row := range rows(x.steps...) {
				p := &play{rig: who(t, x.now), habit: x.habit}
				for thread, n := range x.steps {
					if early && n > 0 {
						p.begins(t, thread)
					}
				}
				for _, thread := range row {
					p.next(t, thread)
				}
				p.ends(t)
			}
		}
	}
}

// Some wakers have read one word, and change it in any order: the first one does it, all others begin anew, and find what that one made of it.
func TestWakersReadTheSame(t *testing.T) { // P11.1, P11.2
	for _, x := range []struct{ read, came, becomes int }{{idle, push, queued}, {running, ok, awake}} {
		for wakers := 1; wakers <= 7; wakers++ {
			for row := range rows(slices.Repeat([]int{1}, wakers)...) {
				g := who(t, x.read)
				for n := range wakers {
					g.whole(t, n+1, wake, notOver)
				}
				g.is(t, x.read)
				for n, thread := range row {
					if n == 0 {
						g.steps(t, thread+1, x.came)
					} else {
						g.steps(t, thread+1, notOver)
					}
					g.is(t, x.becomes)
				}
				for _, thread := range row[1:] {
					g.steps(t, thread+1, ok)
					g.is(t, x.becomes)
				}
			}
		}
	}
}
