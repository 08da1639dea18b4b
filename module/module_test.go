package module_test

import (
	"reflect"
	"slices"
	"strings"
	"testing"

	"callboy/api"
	"callboy/module"
)

// checkRight holds a right module against all that is promised of it.
func checkRight(t *testing.T, name string, m api.Module) {
	t.Helper()
	before, want := clone(m), encode(m)
	if err := module.Right(m); err != api.OK {
		t.Errorf("%s: Right = %d", name, err)
	}
	text, err := module.Bytes(m)
	if text != want || err != api.OK {
		t.Errorf("%s: Bytes = %q, %d, not %q", name, text, err, want)
	}
	back, err := module.Read(want)
	if err != api.OK || encode(back) != want || !module.Same(m, back) {
		t.Errorf("%s: Read(%q) = %v, %d", name, want, back, err)
	}
	if !reflect.DeepEqual(m, before) {
		t.Errorf("%s: the module was changed", name)
	}
}

// checkWrong holds a module that isn't right against it, and its bytes, if it has any.
func checkWrong(t *testing.T, name string, m api.Module, want api.Errno) {
	t.Helper()
	before := clone(m)
	if err := module.Right(m); err != want {
		t.Errorf("%s: Right = %d, not %d", name, err, want)
	}
	if text, err := module.Bytes(m); text != "" || err != want {
		t.Errorf("%s: Bytes = %q, %d, not %d", name, text, err, want)
	}
	if text := encode(m); writable(m) && len(text) <= 65536 {
		checkNone(t, text, api.ErrBytes)
	}
	if !reflect.DeepEqual(m, before) {
		t.Errorf("%s: the module was changed", name)
	}
}

func checkNone(t *testing.T, text string, want api.Errno) {
	t.Helper()
	if m, err := module.Read(text); len(m.Actors) != 0 || err != want {
		t.Errorf("Read(%q) = %v, %d, not %d", text[:min(len(text), 200)], m, err, want)
	}
}

func TestExampleByteByByte(t *testing.T) { // P5.1
	want := "\x43\x42\x31\x01\x00\x00\x00\x01\x00\x00"
	if text, err := module.Bytes(halts()); text != want || err != api.OK {
		t.Errorf("%q, %d", text, err)
	}
	if m, err := module.Read(want); !module.Same(m, halts()) || err != api.OK {
		t.Errorf("%v, %d", m, err)
	}
}

func TestBytesWrittenOut(t *testing.T) { // P5.1
	for _, x := range []struct {
		m    api.Module
		want string
	}{
		{lone(), "CB1\x01" + "\x00" + "\x03\x01\x10\x02" + "\x02\x01\x10" +
			"\x04\x01\x01\x15\x02\x10\x8e\x03\x00" +
			"\x02" + "\x02\x01\x03\x00\x96\x01\x04" + "\x00\x01"},
		{trio(), "CB1\x03" +
			"\x00\x00\x01\x12" + "\x03\x13\x04\x19\x00" + "\x00" +
			"\x02\x11\x01\x03\x11\x01\x02\x03\x01\x02\x10" + "\x04\x04\x02\x15\x00\x18\x00" +
			"\x02" + "\x02\x00\x02\x02\x03\x06" + "\x01\x01\x00\x01" +
			"\x00\x00\x00" + "\x01\x00" + "\x00"},
	} {
		if text, err := module.Bytes(x.m); text != x.want || err != api.OK {
			t.Errorf("Bytes(%v) = %q, %d", x.m, text, err)
		}
		if m, err := module.Read(x.want); !module.Same(m, x.m) || err != api.OK {
			t.Errorf("Read(%q) = %v, %d", x.want, m, err)
		}
	}
}

func TestSamples(t *testing.T) { // P5.1, P5.2
	for _, m := range samples() {
		checkRight(t, "a sample", m)
	}
	for _, e := range others() {
		m := trio()
		e.do(&m)
		checkRight(t, e.name, m)
	}
}

func TestGreatestIsWithinTheBytes(t *testing.T) { // P5.1
	if text, err := module.Bytes(greatest()); len(text) != 19600 || err != api.OK {
		t.Errorf("%d bytes, %d", len(text), err)
	}
}

func TestEdgesOneByOne(t *testing.T) { // P5.1
	for _, e := range []edit{
		{"8 actors", func(m *api.Module) { m.Actors = append(m.Actors, slices.Repeat(halts().Actors, 5)...) }},
		{"4 Params", func(m *api.Module) {
			m.Actors[1].Params = slices.Repeat([]api.Type{api.TBool}, 4)
			m.Actors[1].Regs = slices.Repeat([]api.Type{api.TBool}, 4)
		}},
		{"16 Regs", func(m *api.Module) { m.Actors[0].Regs = slices.Repeat([]api.Type{api.TInt}, 16) }},
		{"8 Messages", func(m *api.Module) { m.Actors[2].Messages = slices.Repeat([]api.Type{api.TInt}, 8) }},
		{"1 instruction", func(m *api.Module) { m.Actors[1].Code = make([]api.Instr, 1) }},
		{"200 instructions", func(m *api.Module) { m.Actors[1].Code = make([]api.Instr, 200) }},
		{"8 Tables of 8 Clauses", func(m *api.Module) {
			m.Actors[0].Tables = slices.Repeat([]api.Table{{Clauses: make([]api.Clause, 8), Timeout: -1}}, 8)
		}},
		{"a Tag of 7", func(m *api.Module) { m.Actors[1].Tables[0].Clauses[0].Tag = 7 }},
		{"a To of 199", func(m *api.Module) { m.Actors[1].Tables[0].Clauses[0].To = 199 }},
		{"a Timeout of 199", func(m *api.Module) { m.Actors[1].Tables[0].Timeout = 199 }},
		{"a Timeout of -1", func(m *api.Module) { m.Actors[1].Tables[0].Timeout = -1 }},
		{"a Timeout of 0", func(m *api.Module) { m.Actors[1].Tables[0].Timeout = 0 }},
		{"the greatest number", func(m *api.Module) { m.Actors[1].Code[3] = api.Instr{Op: api.OpPush, A: most} }},
		{"the least number", func(m *api.Module) { m.Actors[1].Code[3] = api.Instr{Op: api.OpPush, A: least} }},
	} {
		m := trio()
		e.do(&m)
		checkRight(t, e.name, m)
	}
}

func TestTooMuch(t *testing.T) { // P5.1
	for _, e := range tooMuch() {
		m := trio()
		e.do(&m)
		checkWrong(t, e.name, m, api.ErrLong)
	}
}

func TestWrong(t *testing.T) { // P5.1
	for _, m := range []api.Module{{}, {Actors: []api.Actor{}}} {
		checkWrong(t, "no actor", m, api.ErrField)
	}
	checkWrong(t, "an actor without anything", api.Module{Actors: make([]api.Actor, 1)}, api.ErrField)
	for _, e := range wrong() {
		m := trio()
		e.do(&m)
		checkWrong(t, e.name, m, api.ErrField)
	}
}

func TestTooMuchGoesAhead(t *testing.T) { // P5.1, R1
	for _, fault := range wrong() {
		for _, e := range tooMuch() {
			m := trio()
			fault.do(&m)
			if len(m.Actors) < 3 {
				continue
			}
			e.do(&m)
			if err := module.Right(m); err != api.ErrLong {
				t.Errorf("%s and %s: Right = %d", fault.name, e.name, err)
			}
			if text, err := module.Bytes(m); text != "" || err != api.ErrLong {
				t.Errorf("%s and %s: Bytes = %q, %d", fault.name, e.name, text, err)
			}
		}
	}
}

func TestTypesAmongActors(t *testing.T) { // P5.1
	places := []func(a *api.Actor, t api.Type){
		func(a *api.Actor, t api.Type) { a.Regs = []api.Type{t} },
		func(a *api.Actor, t api.Type) { a.Messages = []api.Type{api.TInt, t} },
	}
	for n := 1; n <= 8; n++ {
		for x := api.Type(-40); x < 300; x++ {
			for _, put := range places {
				m := api.Module{Actors: slices.Repeat(halts().Actors, n)}
				put(&m.Actors[(int(x)+40)%n], x)
				if x == 1 || x == 2 || x >= 16 && x < api.Type(16+n) {
					checkRight(t, "a type", m)
				} else {
					checkWrong(t, "no type", m, api.ErrField)
				}
			}
		}
	}
}

func TestNumbersOfTables(t *testing.T) { // P5.1
	check := func(name string, right bool, do func(*api.Table)) {
		t.Helper()
		m := lone()
		do(&m.Actors[0].Tables[0])
		if right {
			checkRight(t, name, m)
		} else {
			checkWrong(t, name, m, api.ErrField)
		}
	}
	for n := -300; n <= 600; n++ {
		check("Tag", n >= 0 && n <= 7, func(t *api.Table) { t.Clauses[1].Tag = n })
		check("To", n >= 0 && n <= 199, func(t *api.Table) { t.Clauses[1].To = n })
		check("Timeout", n >= -1 && n <= 199, func(t *api.Table) { t.Timeout = n })
	}
}

func TestAnyRight(t *testing.T) { // P5.1, P5.2
	d := dice(5)
	for range 2000 {
		checkRight(t, "any", d.anyRight())
	}
}

func TestReadOfOtherFirstBytes(t *testing.T) { // P5.1
	text := encode(trio())
	for at := range 3 {
		for b := range 256 {
			if byte(b) != text[at] {
				checkNone(t, text[:at]+string([]byte{byte(b)})+text[at+1:], api.ErrBytes)
			}
		}
	}
	for _, head := range []string{"", "C", "CB", "cb1", "1BC", "CBB", "CB1CB1", "\x00CB1"} {
		checkNone(t, head+text[3:], api.ErrBytes)
	}
}

func TestReadOfLongTexts(t *testing.T) { // P5.1
	for _, m := range samples() {
		text := encode(m)
		for _, fill := range []string{"\x00", "\x01", "\xff", "C"} {
			long := text + strings.Repeat(fill, 65536-len(text))
			checkNone(t, long, api.ErrBytes)
			checkNone(t, long+fill, api.ErrLong)
			checkNone(t, long+long, api.ErrLong)
			checkNone(t, strings.Repeat(fill, 65536), api.ErrBytes)
			checkNone(t, strings.Repeat(fill, 65537), api.ErrLong)
		}
	}
	checkNone(t, strings.Repeat("CB1\x08", 1<<18), api.ErrLong)
}

func TestReadOfGreatNumbers(t *testing.T) { // P5.1, W0
	for _, n := range []uint64{9, 201, 65536, 1 << 31, 1 << 32, 1<<32 + 1, 1 << 63, 1<<63 + 1, 1<<64 - 1} {
		e := encoder{stretch: -1}
		e.num(n)
		great := string(e.text)
		for _, head := range []string{
			"CB1",
			"CB1\x01", "CB1\x01\x00", "CB1\x01\x00\x00", "CB1\x01\x00\x00\x00",
			"CB1\x01\x00\x00\x00\x01\x00", "CB1\x01\x00\x00\x00\x01\x00\x01",
			"CB1\x01\x00\x00\x00\x01\x00\x01\x01", "CB1\x01\x00\x00\x00\x01\x00\x01\x01\x00",
			"CB1\x01\x00\x00\x00\x01\x00\x01\x00",
		} {
			checkNone(t, head+great, api.ErrBytes)
			checkNone(t, head+great+strings.Repeat("\x00", 30), api.ErrBytes)
			checkNone(t, head+great+strings.Repeat("\x01", 60000), api.ErrBytes)
		}
	}
}

// A number that is cut down to 32 bits, or to the bits of an int, would be a right one.
func TestNumbersAreNotCutDown(t *testing.T) { // P5.1
	head := "CB1\x01\x00\x00\x00\x01\x00\x01"
	for _, n := range []uint64{1 << 32, 1 << 33, 1<<32 + 3, 1 << 63} {
		e := encoder{stretch: -1}
		e.num(n)
		great := string(e.text)
		checkNone(t, head+"\x01"+great+"\x00\x00", api.ErrBytes)
		checkNone(t, head+"\x01\x00"+great+"\x00", api.ErrBytes)
		checkNone(t, head+"\x00"+great, api.ErrBytes)
		checkNone(t, "CB1"+great, api.ErrBytes)
	}
	if _, err := module.Read(head + "\x01\x00\x00\x00"); err != api.OK {
		t.Error(err)
	}
}

// An instruction that can't be read has bytes that would be Tables, if it were passed over.
func TestWrongInstructionsAreNotPassedOver(t *testing.T) { // P5.1, P5.2
	for count := 1; count <= 8; count++ {
		for _, size := range []int{1, 2, 200} {
			m := halts()
			m.Actors[0].Tables = slices.Repeat([]api.Table{{Clauses: make([]api.Clause, 1), Timeout: -1}}, count)
			e := encoder{stretch: -1}
			e.num(uint64(size))
			tables := encode(m)[9:]
			checkNone(t, "CB1\x01\x00\x00\x00"+string(e.text)+tables, api.ErrBytes)
			checkNone(t, "CB1\x01\x00\x00\x00"+string(e.text)+strings.Repeat("\x00", size-1)+tables, api.ErrBytes)
		}
	}
}

func TestNoBeginningIsAModule(t *testing.T) { // P5.2
	for _, m := range samples() {
		text := encode(m)
		for size := range text {
			checkNone(t, text[:size], api.ErrBytes)
		}
	}
}

func TestNothingMoreBehind(t *testing.T) { // P5.2
	for _, m := range samples() {
		text := encode(m)
		for b := range 256 {
			checkNone(t, text+string([]byte{byte(b)}), api.ErrBytes)
		}
		checkNone(t, text+text, api.ErrBytes)
		checkNone(t, text+"CB1", api.ErrBytes)
		checkNone(t, text+strings.Repeat("\x00", 9), api.ErrBytes)
	}
}

func TestNumbersInAnotherWay(t *testing.T) { // P5.2
	for _, m := range samples() {
		plain := encoder{stretch: -1}
		plain.module(m)
		for k := range plain.numbers {
			e := encoder{stretch: k}
			e.module(m)
			if len(e.text) != len(plain.text)+1 {
				t.Fatal("the encoder of the tests didn't stretch", k)
			}
			checkNone(t, string(e.text), api.ErrBytes)
		}
	}
}

// checkText holds any text against its promise: a right module whose bytes it is, or an error and nothing.
func checkText(t *testing.T, text string) bool {
	t.Helper()
	m, err := module.Read(text)
	if err != api.OK {
		want := api.ErrBytes
		if len(text) > 65536 {
			want = api.ErrLong
		}
		if err != want || len(m.Actors) != 0 {
			t.Errorf("Read(%q) = %v, %d", text, m, err)
		}
		return false
	}
	if s, err := module.Bytes(m); s != text || err != api.OK || encode(m) != text {
		t.Errorf("Read(%q) = %v, which is told as %q, %d", text, m, s, err)
	}
	return true
}

func TestWhatIsReadIsToldAsTheseBytes(t *testing.T) { // P5.2
	read := 0
	for _, m := range []api.Module{halts(), lone(), trio()} {
		text := encode(m)
		for at := range text {
			for b := range 256 {
				one := string([]byte{byte(b)})
				for _, s := range []string{text[:at] + one + text[at+1:], text[:at] + one + text[at:]} {
					if checkText(t, s) {
						read++
					}
				}
			}
			checkText(t, text[:at]+text[at+1:])
		}
	}
	if read < 1000 {
		t.Errorf("%d were read", read)
	}
}

func TestUnlikeModulesHaveUnlikeBytes(t *testing.T) { // P5.2
	seen := map[string]string{}
	text, _ := module.Bytes(trio())
	seen[text] = "none"
	for _, e := range others() {
		m := trio()
		e.do(&m)
		text, _ := module.Bytes(m)
		if other, ok := seen[text]; ok {
			t.Errorf("%s has the bytes of %s", e.name, other)
		}
		seen[text] = e.name
	}
}

func FuzzRead(f *testing.F) { // P5.2
	for _, m := range samples() {
		f.Add(encode(m))
	}
	f.Add("")
	f.Add("CB1")
	f.Fuzz(func(t *testing.T, text string) { checkText(t, text) })
}

func TestEmptyListsAreWrittenAlike(t *testing.T) { // P5.1, R4
	m := api.Module{Actors: []api.Actor{{
		Params: []api.Type{}, Regs: []api.Type{}, Messages: []api.Type{},
		Code: []api.Instr{{}}, Tables: []api.Table{},
	}}}
	checkRight(t, "empty lists", m)
	if encode(m) != encode(halts()) {
		t.Error("the bytes aren't those of the example")
	}
	m = lone()
	m.Actors[0].Tables[1].Clauses = []api.Clause{}
	checkRight(t, "empty Clauses", m)
}

// scribble changes all that m holds, within its lists and behind their ends.
func scribble(m api.Module) {
	for k := range m.Actors {
		a := &m.Actors[k]
		for _, l := range [][]api.Type{a.Params, a.Regs, a.Messages} {
			l = append(l, 99)
			l[0] = 98
		}
		_ = append(a.Code, api.Instr{Op: 97})
		for j := range a.Code {
			a.Code[j].Op = 96
		}
		for j := range a.Tables {
			c := append(a.Tables[j].Clauses, api.Clause{Tag: 95})
			c[0].To = 94
			a.Tables[j].Timeout = 93
		}
		_ = append(a.Tables, api.Table{Timeout: 92})
	}
	_ = append(m.Actors, api.Actor{Code: make([]api.Instr, 3)})
}

func TestAnswersShareNoMemory(t *testing.T) { // R4
	for _, m := range samples() {
		text := encode(m)
		one, _ := module.Read(text)
		two, _ := module.Read(text)
		scribble(one)
		if !module.Same(two, m) {
			t.Errorf("what was read first is shared with what was read next: %v", two)
		}
	}
}

func TestListsOfOneAnswerShareNoMemory(t *testing.T) { // R4
	for _, m := range samples() {
		got, _ := module.Read(encode(m))
		for k := range got.Actors {
			a := &got.Actors[k]
			_, _, _ = append(a.Params, 99), append(a.Regs, 99), append(a.Messages, 99)
			_, _ = append(a.Code, api.Instr{Op: 98}), append(a.Tables, api.Table{Timeout: 97})
			for j := range a.Tables {
				_ = append(a.Tables[j].Clauses, api.Clause{Tag: 96})
			}
		}
		_ = append(got.Actors, api.Actor{})
		if !module.Same(got, m) {
			t.Errorf("lists stand behind one another: %v", got)
		}
	}
	got, _ := module.Read(encode(trio()))
	got.Actors[1].Params[0] = api.TInt
	if got.Actors[1].Regs[0] != api.TPid+1 {
		t.Error("Params and Regs share memory")
	}
}

func TestCallsAnswerAlikeAgain(t *testing.T) { // R6, W0
	for range 3 {
		checkRight(t, "trio", trio())
		checkWrong(t, "nothing", api.Module{}, api.ErrField)
		checkNone(t, "CB1\x01", api.ErrBytes)
		checkNone(t, strings.Repeat("C", 65537), api.ErrLong)
	}
}
