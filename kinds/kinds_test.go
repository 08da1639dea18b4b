package kinds_test

import (
	"math"
	"slices"
	"strings"
	"testing"

	"callboy/api"
	"callboy/kinds"
)

// rows are the types that are right among eight actors, each with its name and its actor; -1: none.
func rows() []struct {
	kind  api.Type
	name  string
	actor int
} {
	return []struct {
		kind  api.Type
		name  string
		actor int
	}{
		{1, "int", -1}, {2, "bool", -1}, {16, "pid0", 0}, {17, "pid1", 1}, {18, "pid2", 2}, {19, "pid3", 3},
		{20, "pid4", 4}, {21, "pid5", 5}, {22, "pid6", 6}, {23, "pid7", 7},
	}
}

// wrongTypes are those that are right among no actors: all near the right ones, and some far away.
func wrongTypes() []api.Type {
	var right, wrong []api.Type
	for _, x := range rows() {
		right = append(right, x.kind)
	}
	for t := api.Type(-300); t <= 300; t++ {
		if !slices.Contains(right, t) {
			wrong = append(wrong, t)
		}
	}
	return append(wrong, math.MinInt, math.MinInt+1, math.MinInt+16, math.MinInt+17, math.MaxInt, math.MaxInt-1,
		1<<32+1, 1<<32+16, 1<<16+2, 1<<8+16, 1<<63-16, -1<<32+1)
}

func wrongNames() []string {
	return []string{"", " ", "-", "--", ",", "Int", "INT", "in", "intt", "int0", "int ", " int", "\tint", "int\n", "int\x00",
		"Bool", "boo", "boolean", "bool ", " bool", "integer", "i", "1", "2", "16", "truth",
		"pid", "pid ", "Pid0", "PID0", "pid8", "pid9", "pid10", "pid16", "pid00", "pid07", "pid03", "pid007", "pid-0", "pid-1", "pid+0", "pid+3",
		"pid 3", "pid3 ", " pid3", "pid_3", "pid3.", "pid3.0", "pid0x3", "pida", "pid/", "pid:", "pid\x00", "pid\xff", "pid3\x00",
		"pid٣", "pid３", "pid256", "pid264", "pid4294967296", "pid18446744073709551616", "pipid3", "pidpid3", "pi0", "id0", "0"}
}

func TestRightAmongSome(t *testing.T) { // P2.1
	for _, n := range []int{math.MinInt, -9, -1, 0, 1, 2, 3, 4, 5, 6, 7, 8, 9, 16, 24, 99, math.MaxInt} {
		for _, x := range rows() {
			want := x.actor < 0 || x.actor < n
			if kinds.Right(x.kind, n) != want {
				t.Errorf("Right(%d, %d): want %v", x.kind, n, want)
			}
		}
		for _, k := range wrongTypes() {
			if kinds.Right(k, n) {
				t.Errorf("Right(%d, %d)", k, n)
			}
		}
	}
}

func TestAll(t *testing.T) { // P2.1
	for _, x := range []struct {
		list []api.Type
		n    int
		want bool
	}{
		{nil, 0, true}, {nil, -1, true}, {[]api.Type{}, 8, true},
		{[]api.Type{1}, 0, true}, {[]api.Type{2, 1, 2}, -5, true}, {[]api.Type{16}, 0, false}, {[]api.Type{16}, -1, false},
		{[]api.Type{1, 2, 17}, 2, true}, {[]api.Type{1, 2, 18}, 2, false}, {[]api.Type{18, 1, 2}, 2, false}, {[]api.Type{1, 18, 2}, 2, false},
		{[]api.Type{16, 17, 18, 19, 20, 21, 22, 23}, 8, true}, {[]api.Type{16, 17, 18, 19, 20, 21, 22, 23}, 7, false},
		{[]api.Type{16, 23, 1}, math.MaxInt, true}, {[]api.Type{16, 24, 1}, 99, false}, {[]api.Type{24}, math.MaxInt, false},
		{[]api.Type{0}, 8, false}, {[]api.Type{1, 0}, 8, false}, {[]api.Type{3, 1}, 8, false}, {[]api.Type{-1, -1}, 8, false},
	} {
		if kinds.All(x.list, x.n) != x.want {
			t.Errorf("All(%v, %d): want %v", x.list, x.n, x.want)
		}
	}
}

func TestActorsAndTheirTypes(t *testing.T) { // P2.1
	for _, x := range rows() {
		k, ok := kinds.Actor(x.kind)
		if ok != (x.actor >= 0) || k != max(x.actor, 0) {
			t.Errorf("Actor(%d): %d %v", x.kind, k, ok)
		}
		if x.actor < 0 {
			continue
		}
		if kind, ok := kinds.Of(x.actor); kind != x.kind || !ok {
			t.Errorf("Of(%d): %d %v", x.actor, kind, ok)
		}
	}
	for _, kind := range wrongTypes() {
		if k, ok := kinds.Actor(kind); k != 0 || ok {
			t.Errorf("Actor(%d): %d %v", kind, k, ok)
		}
	}
	for _, k := range []int{math.MinInt, -16, -15, -14, -8, -1, 8, 9, 16, 256, 1 << 32, math.MaxInt - 15, math.MaxInt} {
		if kind, ok := kinds.Of(k); kind != 0 || ok {
			t.Errorf("Of(%d): %d %v", k, kind, ok)
		}
	}
}

func TestNameBothWays(t *testing.T) { // P2.1, P2.2
	seen := map[string]api.Type{}
	for _, x := range rows() {
		name := kinds.Name(x.kind)
		if name != x.name {
			t.Errorf("Name(%d): %q, want %q", x.kind, name, x.name)
		}
		if other, ok := seen[name]; ok {
			t.Errorf("%d and %d are both %q", other, x.kind, name)
		}
		seen[name] = x.kind
		if kind, ok := kinds.Parse(name); kind != x.kind || !ok {
			t.Errorf("Parse(%q): %d %v", name, kind, ok)
		}
	}
	for _, kind := range wrongTypes() {
		if name := kinds.Name(kind); name != "" {
			t.Errorf("Name(%d): %q", kind, name)
		}
	}
}

func TestParseWrongNames(t *testing.T) { // P2.1
	for _, s := range wrongNames() {
		if kind, ok := kinds.Parse(s); kind != 0 || ok {
			t.Errorf("Parse(%q): %d %v", s, kind, ok)
		}
	}
	for _, s := range []string{"int,", ",int", "int,bool", "pid0,pid1"} {
		if kind, ok := kinds.Parse(s); kind != 0 || ok {
			t.Errorf("Parse(%q): %d %v", s, kind, ok)
		}
	}
}

// Every byte at every place of a name: but for pid's digit, none but the name's own leads to a type.
func TestParseNamesWithAnotherByte(t *testing.T) { // P2.1, P2.2
	names := map[string]bool{}
	for _, x := range rows() {
		names[x.name] = true
	}
	for _, x := range rows() {
		for i := range len(x.name) {
			for b := range 256 {
				s := x.name[:i] + string([]byte{byte(b)}) + x.name[i+1:]
				kind, ok := kinds.Parse(s)
				if ok != names[s] || ok && kinds.Name(kind) != s || !ok && kind != 0 {
					t.Errorf("Parse(%q): %d %v", s, kind, ok)
				}
			}
		}
	}
}

func TestSame(t *testing.T) { // P2.1
	for _, x := range []struct {
		a, b []api.Type
		want bool
	}{
		{nil, nil, true}, {nil, []api.Type{}, true}, {[]api.Type{}, nil, true}, {nil, []api.Type{0}, false}, {[]api.Type{1}, nil, false},
		{[]api.Type{1}, []api.Type{1}, true}, {[]api.Type{1}, []api.Type{2}, false}, {[]api.Type{16}, []api.Type{17}, false},
		{[]api.Type{1, 2}, []api.Type{2, 1}, false}, {[]api.Type{1, 2}, []api.Type{1}, false}, {[]api.Type{1}, []api.Type{1, 2}, false},
		{[]api.Type{1, 16, 2}, []api.Type{1, 16, 2}, true}, {[]api.Type{1, 16, 2}, []api.Type{1, 16, 1}, false}, {[]api.Type{1, 16, 2}, []api.Type{2, 16, 2}, false},
		{[]api.Type{1, 1}, []api.Type{1, 1, 1}, false},
		// Whether they are right isn't asked.
		{[]api.Type{24, -1}, []api.Type{24, -1}, true}, {[]api.Type{24}, []api.Type{25}, false}, {[]api.Type{1}, []api.Type{1<<32 + 1}, false},
	} {
		if kinds.Same(x.a, x.b) != x.want {
			t.Errorf("Same(%v, %v): want %v", x.a, x.b, x.want)
		}
	}
}

func wantListBothWays(t *testing.T, list []api.Type, names string) {
	t.Helper()
	if s := kinds.Names(list); s != names {
		t.Errorf("Names(%v): %q, want %q", list, s, names)
	}
	if l, ok := kinds.ParseAll(names); !slices.Equal(l, list) || !ok {
		t.Errorf("ParseAll(%q): %v %v, want %v", names, l, ok, list)
	}
}

func TestNamesBothWays(t *testing.T) { // P2.1, P2.2
	wantListBothWays(t, nil, "-")
	wantListBothWays(t, []api.Type{}, "-")
	wantListBothWays(t, []api.Type{1}, "int")
	wantListBothWays(t, []api.Type{1, 16}, "int,pid0")
	wantListBothWays(t, []api.Type{16, 1}, "pid0,int")
	wantListBothWays(t, []api.Type{2, 2, 2}, "bool,bool,bool")
	wantListBothWays(t, []api.Type{23, 2, 1, 17, 16, 18, 19, 20, 21, 22}, "pid7,bool,int,pid1,pid0,pid2,pid3,pid4,pid5,pid6")
	long := slices.Repeat([]api.Type{1, 19, 2}, 20000)
	wantListBothWays(t, long, strings.Repeat("int,pid3,bool,", 19999)+"int,pid3,bool")
}

// lists are all lists of right types that have at most four.
func lists() [][]api.Type {
	all := [][]api.Type{nil}
	for begin, size := 0, 0; size < 4; size++ {
		end := len(all)
		for _, l := range all[begin:end] {
			for _, x := range rows() {
				all = append(all, append(slices.Clone(l), x.kind))
			}
		}
		begin = end
	}
	return all
}

func TestUnlikeListsHaveUnlikeNames(t *testing.T) { // P2.2
	seen := map[string]bool{}
	for _, l := range lists() {
		names := kinds.Names(l)
		if names == "" || seen[names] {
			t.Fatalf("Names(%v): %q, none or a second time", l, names)
		}
		seen[names] = true
		if again, ok := kinds.ParseAll(names); !ok || !kinds.Same(again, l) {
			t.Fatalf("ParseAll(%q): %v %v, want %v", names, again, ok, l)
		}
	}
}

func TestNamesWithAWrongType(t *testing.T) { // P2.1
	for _, wrong := range wrongTypes() {
		for _, l := range [][]api.Type{{wrong}, {wrong, 1}, {2, wrong}, {1, wrong, 16}, {wrong, wrong}} {
			if s := kinds.Names(l); s != "" {
				t.Errorf("Names(%v): %q", l, s)
			}
		}
	}
}

func wantNoList(t *testing.T, s string) {
	t.Helper()
	if l, ok := kinds.ParseAll(s); ok || len(l) != 0 {
		t.Errorf("ParseAll(%.40q): %v %v", s, l, ok)
	}
}

func TestParseAllWrongLists(t *testing.T) { // P2.1
	for _, s := range []string{"", ",", ",,", ",int", "int,", ",int,", "int,,pid0", "int,pid0,", "int, pid0", "int ,pid0", " int,pid0", "int,pid0 ",
		" ", "- ", " -", "--", "-,-", "-,int", "int,-", "int,-,bool", "-,", ",-", "int;bool", "int bool", "intbool", "int.bool", "int,\x00,bool",
		"int,bool\n", "int，bool", "[int,bool]"} {
		wantNoList(t, s)
	}
	wantNoList(t, strings.Repeat(",", 50000))
	wantNoList(t, strings.Repeat("int,", 50000))
}

func TestParseAllWithAWrongName(t *testing.T) { // P2.1
	for _, wrong := range wrongNames() {
		if wrong != "-" {
			wantNoList(t, wrong)
		}
		for _, s := range []string{wrong + ",int", "int," + wrong, "bool," + wrong + ",pid0"} {
			wantNoList(t, s)
		}
	}
}

func TestListsAreLeftAndNew(t *testing.T) { // P2.1, R4
	list, same := []api.Type{1, 2, 16, 24}, []api.Type{1, 2, 16, 24}
	kinds.All(list, 8)
	kinds.Names(list)
	kinds.Names(list[:3])
	kinds.Same(list, same[:3])
	if !slices.Equal(list, same) {
		t.Errorf("a list was changed: %v", list)
	}
	a, _ := kinds.ParseAll("int,bool")
	b, _ := kinds.ParseAll("int,bool")
	a[0], a[1] = 16, 17
	if c, _ := kinds.ParseAll("int,bool"); !slices.Equal(b, []api.Type{1, 2}) || !slices.Equal(c, b) {
		t.Errorf("lists share memory: %v %v %v", a, b, c)
	}
}
