package instr_test

import (
	"math"
	"strings"
	"testing"

	"callboy/api"
	"callboy/instr"
)

const (
	least = math.MinInt64
	most  = math.MaxInt64
	ops   = 27
)

// row is a row of the chapter's table, written out by itself so that it leans on no constant of the program.
type row struct {
	name string
	has  bool
	low  int64
	high int64
}

func table() []row {
	return []row{
		{name: "halt"},
		{"push", true, least, most},
		{name: "true"}, {name: "false"},
		{"load", true, 0, 15}, {"store", true, 0, 15},
		{name: "add"}, {name: "sub"}, {name: "mul"}, {name: "div"}, {name: "rem"},
		{name: "less"}, {name: "eq"}, {name: "not"}, {name: "and"}, {name: "or"},
		{"jump", true, 0, 199}, {"unless", true, 0, 199},
		{name: "self"},
		{"spawn", true, 0, 7},
		{"send", true, 0, 7},
		{"recv", true, 0, 7},
		{name: "link"}, {name: "exit"}, {name: "out"}, {name: "drop"}, {name: "dup"},
	}
}

// wrongOps are numbers that are no Op.
func wrongOps() []int {
	return []int{-1, -2, -26, -27, -255, -256, math.MinInt, math.MinInt + 1, 27, 28, 127, 128, 255, 256, 257, 1 << 32, 1<<32 + 1, math.MaxInt}
}

// numbers are those near 0, near each limit of the table, near each power of 2 and near both ends.
func numbers() []int64 {
	list := []int64{least, least + 1, most, most - 1}
	for n := int64(-300); n <= 300; n++ {
		list = append(list, n)
	}
	for shift := 9; shift < 63; shift++ {
		n := int64(1) << shift
		list = append(list, n-1, n, n+1, -n-1, -n, -n+1)
	}
	return list
}

// intBytes writes a number with a sign as layer 1's chapter says, by itself.
func intBytes(n int64) string {
	u := uint64(n) << 1
	if n < 0 {
		u = ^u
	}
	var text []byte
	for ; u > 127; u >>= 7 {
		text = append(text, byte(u)|128)
	}
	return string(append(text, byte(u)))
}

// wantBytes is what Bytes must tell of an instruction with a right Op.
func wantBytes(i api.Instr) string {
	text := string([]byte{byte(i.Op)})
	if table()[i.Op].has {
		text += intBytes(i.A)
	}
	return text
}

func wantRight(i api.Instr) bool {
	rows := table()
	if i.Op < 0 || i.Op >= len(rows) {
		return false
	}
	return rows[i.Op].low <= i.A && i.A <= rows[i.Op].high
}

func checkRead(t *testing.T, text string, want api.Instr, size int, err api.Errno) {
	t.Helper()
	i, n, e := instr.Read(text)
	if i != want || n != size || e != err {
		t.Errorf("Read(%q) = %v, %d, %d, not %v, %d, %d", text, i, n, e, want, size, err)
	}
}

func TestTableHasAllOps(t *testing.T) {
	if len(table()) != ops || api.OpDup != ops-1 {
		t.Fatal("the table of the tests isn't the chapter's")
	}
}

func TestHas(t *testing.T) { // P4.1
	for op, row := range table() {
		if instr.Has(op) != row.has {
			t.Errorf("Has(%d) = %t", op, !row.has)
		}
	}
	for _, op := range wrongOps() {
		if instr.Has(op) {
			t.Errorf("Has(%d)", op)
		}
	}
}

func TestRightAtTheEnds(t *testing.T) { // P4.1
	for _, x := range []struct {
		op   int
		a    int64
		want bool
	}{
		{api.OpHalt, 0, true}, {api.OpHalt, 1, false}, {api.OpHalt, -1, false},
		{api.OpPush, least, true}, {api.OpPush, most, true}, {api.OpPush, 0, true},
		{api.OpLoad, -1, false}, {api.OpLoad, 0, true}, {api.OpLoad, 15, true}, {api.OpLoad, 16, false},
		{api.OpStore, -1, false}, {api.OpStore, 0, true}, {api.OpStore, 15, true}, {api.OpStore, 16, false},
		{api.OpJump, -1, false}, {api.OpJump, 0, true}, {api.OpJump, 199, true}, {api.OpJump, 200, false},
		{api.OpUnless, -1, false}, {api.OpUnless, 0, true}, {api.OpUnless, 199, true}, {api.OpUnless, 200, false},
		{api.OpSpawn, -1, false}, {api.OpSpawn, 0, true}, {api.OpSpawn, 7, true}, {api.OpSpawn, 8, false},
		{api.OpSend, -1, false}, {api.OpSend, 0, true}, {api.OpSend, 7, true}, {api.OpSend, 8, false},
		{api.OpRecv, -1, false}, {api.OpRecv, 0, true}, {api.OpRecv, 7, true}, {api.OpRecv, 8, false},
		{api.OpSelf, 0, true}, {api.OpSelf, 7, false},
		{api.OpDup, 0, true}, {api.OpDup, 1, false}, {api.OpDup, least, false}, {api.OpDup, most, false},
	} {
		if got := instr.Right(api.Instr{Op: x.op, A: x.a}); got != x.want {
			t.Errorf("Right(%d %d) = %t", x.op, x.a, got)
		}
	}
}

func TestRightAndBytesOfAll(t *testing.T) { // P4.1
	for op := range ops {
		for _, a := range numbers() {
			i := api.Instr{Op: op, A: a}
			right, text, err := wantRight(i), "", api.ErrField
			if right {
				text, err = wantBytes(i), api.OK
			}
			if instr.Right(i) != right {
				t.Errorf("Right(%v) = %t", i, !right)
			}
			if s, e := instr.Bytes(i); s != text || e != err {
				t.Errorf("Bytes(%v) = %q, %d, not %q, %d", i, s, e, text, err)
			}
		}
	}
}

func TestNoOpIsNeverRight(t *testing.T) { // P4.1
	for _, op := range wrongOps() {
		for _, a := range []int64{0, 1, -1, 7, least, most} {
			i := api.Instr{Op: op, A: a}
			if instr.Right(i) {
				t.Errorf("Right(%v)", i)
			}
			if s, e := instr.Bytes(i); s != "" || e != api.ErrField {
				t.Errorf("Bytes(%v) = %q, %d", i, s, e)
			}
		}
	}
}

func TestBytesWrittenOut(t *testing.T) { // P4.1
	for _, x := range []struct {
		op   int
		a    int64
		want string
	}{
		{api.OpHalt, 0, "\x00"},
		{api.OpPush, 0, "\x01\x00"},
		{api.OpPush, -1, "\x01\x01"},
		{api.OpPush, 1, "\x01\x02"},
		{api.OpPush, 63, "\x01\x7e"},
		{api.OpPush, -64, "\x01\x7f"},
		{api.OpPush, 64, "\x01\x80\x01"},
		{api.OpPush, most, "\x01\xfe\xff\xff\xff\xff\xff\xff\xff\xff\x01"},
		{api.OpPush, least, "\x01\xff\xff\xff\xff\xff\xff\xff\xff\xff\x01"},
		{api.OpLoad, 15, "\x04\x1e"},
		{api.OpJump, 199, "\x10\x8e\x03"},
		{api.OpUnless, 0, "\x11\x00"},
		{api.OpRecv, 7, "\x15\x0e"},
		{api.OpDup, 0, "\x1a"},
	} {
		i := api.Instr{Op: x.op, A: x.a}
		if s, e := instr.Bytes(i); s != x.want || e != api.OK {
			t.Errorf("Bytes(%v) = %q, %d, not %q", i, s, e, x.want)
		}
		checkRead(t, x.want, i, len(x.want), api.OK)
	}
}

func TestReadOfEmpty(t *testing.T) { // P4.1
	checkRead(t, "", api.Instr{}, 0, api.ErrShort)
}

func TestReadOfNoOp(t *testing.T) { // P4.1
	for b := ops; b < 256; b++ {
		for _, behind := range []string{"", "\x00", "\x80\x00", "\x80", "\x01\x02"} {
			checkRead(t, string([]byte{byte(b)})+behind, api.Instr{}, 0, api.ErrKind)
		}
	}
}

func TestReadEndsWithinA(t *testing.T) { // P4.1
	for op, row := range table() {
		if !row.has {
			continue
		}
		head := string([]byte{byte(op)})
		for size := range 10 {
			checkRead(t, head+strings.Repeat("\x80", size), api.Instr{}, 0, api.ErrShort)
			checkRead(t, head+strings.Repeat("\xff", size), api.Instr{}, 0, api.ErrShort)
		}
	}
	for _, a := range numbers() {
		text := wantBytes(api.Instr{Op: api.OpPush, A: a})
		for size := 1; size < len(text); size++ {
			checkRead(t, text[:size], api.Instr{}, 0, api.ErrShort)
		}
	}
}

func TestReadOfAnotherWayOfWriting(t *testing.T) { // P4.1
	for op, row := range table() {
		if !row.has {
			continue
		}
		head := string([]byte{byte(op)})
		for _, a := range []string{
			"\x80\x00", "\x82\x00", "\x82\x80\x00", "\x8e\x83\x00",
			"\x80\x80\x80\x80\x80\x80\x80\x80\x80\x00",
			"\x80\x80\x80\x80\x80\x80\x80\x80\x80\x02",
			"\xff\xff\xff\xff\xff\xff\xff\xff\xff\x03",
			"\xff\xff\xff\xff\xff\xff\xff\xff\xff\x7f",
			"\x80\x80\x80\x80\x80\x80\x80\x80\x80\x80",
			"\x80\x80\x80\x80\x80\x80\x80\x80\x80\x81\x00",
		} {
			checkRead(t, head+a, api.Instr{}, 0, api.ErrField)
			checkRead(t, head+a+"\x00\x1b", api.Instr{}, 0, api.ErrField)
		}
	}
}

func TestReadOfAPastItsEnds(t *testing.T) { // P4.1
	for op := range ops {
		for _, a := range numbers() {
			i := api.Instr{Op: op, A: a}
			if !table()[op].has || wantRight(i) {
				continue
			}
			checkRead(t, wantBytes(i), api.Instr{}, 0, api.ErrField)
			checkRead(t, wantBytes(i)+"\x80", api.Instr{}, 0, api.ErrField)
		}
	}
	checkRead(t, "\x04\x20", api.Instr{}, 0, api.ErrField)     // load 16
	checkRead(t, "\x05\x01", api.Instr{}, 0, api.ErrField)     // store -1
	checkRead(t, "\x10\x90\x03", api.Instr{}, 0, api.ErrField) // jump 200
	checkRead(t, "\x13\x10", api.Instr{}, 0, api.ErrField)     // spawn 8
}

func TestReadLeavesWhatIsBehind(t *testing.T) { // P4.1
	checkRead(t, "\x02\xff", api.Instr{Op: api.OpTrue}, 1, api.OK)
	checkRead(t, "\x00\x80", api.Instr{Op: api.OpHalt}, 1, api.OK)
	checkRead(t, "\x00\x00", api.Instr{Op: api.OpHalt}, 1, api.OK)
	checkRead(t, "\x06\x02", api.Instr{Op: api.OpAdd}, 1, api.OK)
	checkRead(t, "\x01\x01\x01", api.Instr{Op: api.OpPush, A: -1}, 2, api.OK)
	checkRead(t, "\x01\x01\x80\x00", api.Instr{Op: api.OpPush, A: -1}, 2, api.OK)
	checkRead(t, "\x13\x0e\x13\x10", api.Instr{Op: api.OpSpawn, A: 7}, 2, api.OK)
	checkRead(t, "\x1a"+strings.Repeat("\xff", 1<<20), api.Instr{Op: api.OpDup}, 1, api.OK)
}

func TestBytesAreReadAgain(t *testing.T) { // P4.2
	behinds := []string{"", "\x00", "\x01", "\x1b", "\x80", "\x80\x00", "\xff", "\xff\xff\xff", "halt", "\x01\x02\x03"}
	for op := range ops {
		for _, a := range numbers() {
			i := api.Instr{Op: op, A: a}
			text, err := instr.Bytes(i)
			if err != api.OK {
				continue
			}
			for _, behind := range behinds {
				checkRead(t, text+behind, i, len(text), api.OK)
			}
		}
	}
}

// texts gives every text of up to three bytes that begins with a byte that may matter, to f.
func texts(f func(string)) {
	f("")
	for a := range 256 {
		f(string([]byte{byte(a)}))
		for b := range 256 {
			f(string([]byte{byte(a), byte(b)}))
			if a > ops {
				continue
			}
			for c := range 256 {
				f(string([]byte{byte(a), byte(b), byte(c)}))
			}
		}
	}
}

func TestWhatIsReadIsToldAsTheseBytes(t *testing.T) { // P4.2
	read := 0
	texts(func(text string) {
		i, n, err := instr.Read(text)
		if err != api.OK {
			if i != (api.Instr{}) || n != 0 {
				t.Errorf("Read(%q) = %v, %d beside %d", text, i, n, err)
			}
			return
		}
		read++
		if n < 1 || n > len(text) || !instr.Right(i) {
			t.Errorf("Read(%q) = %v, %d", text, i, n)
			return
		}
		if s, e := instr.Bytes(i); s != text[:n] || e != api.OK {
			t.Errorf("Read(%q) = %v, %d, which is told as %q, %d", text, i, n, s, e)
		}
	})
	if read == 0 {
		t.Error("nothing was read")
	}
}

func FuzzRead(f *testing.F) { // P4.2
	for _, text := range []string{"", "\x00", "\x01\x80\x01", "\x10\x8e\x03\x00", "\x1b", "\x01\xff\xff\xff\xff\xff\xff\xff\xff\xff\x01"} {
		f.Add(text)
	}
	f.Fuzz(func(t *testing.T, text string) {
		i, n, err := instr.Read(text)
		if err != api.OK {
			return
		}
		if s, e := instr.Bytes(i); s != text[:n] || e != api.OK {
			t.Errorf("Read(%q) = %v, %d, which is told as %q, %d", text, i, n, s, e)
		}
	})
}

func TestNames(t *testing.T) { // P4.1
	for op, row := range table() {
		if s := instr.Name(op); s != row.name {
			t.Errorf("Name(%d) = %q", op, s)
		}
		if n, ok := instr.Parse(row.name); n != op || !ok {
			t.Errorf("Parse(%q) = %d, %t", row.name, n, ok)
		}
	}
	for _, op := range wrongOps() {
		if s := instr.Name(op); s != "" {
			t.Errorf("Name(%d) = %q", op, s)
		}
	}
}

func TestParseOfNoName(t *testing.T) { // P4.1
	wrong := []string{"", " ", "0", "1", "27", "nop", "pushes", "int", "-", "halt push", "halt\n", "trueHalt"}
	for _, row := range table() {
		wrong = append(wrong, strings.ToUpper(row.name), row.name+" ", " "+row.name, row.name+"\x00", row.name[1:], row.name+row.name, row.name+" 1")
	}
	for _, name := range wrong {
		if n, ok := instr.Parse(name); n != 0 || ok {
			t.Errorf("Parse(%q) = %d, %t", name, n, ok)
		}
	}
}

func TestParseOfNearNames(t *testing.T) { // P4.1
	right := map[string]int{}
	for op, row := range table() {
		right[row.name] = op
	}
	for name := range right {
		for at := range len(name) {
			for b := range 256 {
				near := name[:at] + string([]byte{byte(b)}) + name[at+1:]
				want, is := right[near]
				if n, ok := instr.Parse(near); n != want || ok != is {
					t.Errorf("Parse(%q) = %d, %t", near, n, ok)
				}
			}
			short := name[:at]
			want, is := right[short]
			if n, ok := instr.Parse(short); n != want || ok != is {
				t.Errorf("Parse(%q) = %d, %t", short, n, ok)
			}
		}
	}
}

func TestEachOpHasANameOfItsOwn(t *testing.T) { // P4.2
	seen := map[string]int{}
	for op := range ops {
		name := instr.Name(op)
		if other, ok := seen[name]; ok || name == "" {
			t.Errorf("Name(%d) = %q, as of %d", op, name, other)
		}
		seen[name] = op
		if n, ok := instr.Parse(name); n != op || !ok {
			t.Errorf("Parse(Name(%d)) = %d, %t", op, n, ok)
		}
	}
}

func TestCallsAnswerAlikeAgain(t *testing.T) { // W0, R6
	for range 3 {
		checkRead(t, "\x1b", api.Instr{}, 0, api.ErrKind)
		checkRead(t, "\x10\x8e\x03", api.Instr{Op: api.OpJump, A: 199}, 3, api.OK)
		if s, e := instr.Bytes(api.Instr{Op: api.OpJump, A: 200}); s != "" || e != api.ErrField {
			t.Errorf("%q, %d", s, e)
		}
	}
}
