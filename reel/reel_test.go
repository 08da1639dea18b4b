package reel_test

import (
	"math"
	"strings"
	"testing"

	"callboy/api"
	"callboy/reel"
)

const plenty = 1 << 20

// item is one thing that is written or read; kind says which of the others counts.
type item struct {
	kind  int
	num   uint64
	whole int64
	one   int
	text  string
}

const (
	kindNum = iota
	kindInt
	kindByte
	kindText
	kinds
)

func write(w *reel.Writer, x item) {
	switch x.kind {
	case kindNum:
		w.Num(x.num)
	case kindInt:
		w.Int(x.whole)
	case kindByte:
		w.Byte(x.one)
	case kindText:
		w.Text(x.text)
	}
}

func read(r *reel.Reader, kind int) item {
	x := item{kind: kind}
	switch kind {
	case kindNum:
		x.num = r.Num()
	case kindInt:
		x.whole = r.Int()
	case kindByte:
		x.one = r.Byte()
	case kindText:
		x.text = r.Text()
	}
	return x
}

// written is the bytes of the items, which must be writable.
func written(t *testing.T, items ...item) string {
	t.Helper()
	w := reel.New(plenty)
	for _, x := range items {
		write(w, x)
	}
	s, err := w.Done()
	if err != api.OK || w.Len() != len(s) {
		t.Fatalf("%v: Done %d, Len %d of %d", items, err, w.Len(), len(s))
	}
	return s
}

func wantWriter(t *testing.T, w *reel.Writer, text string, err api.Errno, length int) {
	t.Helper()
	// Twice: asking leaves the writer as it is.
	for range 2 {
		if s, e := w.Done(); s != text || e != err {
			t.Errorf("Done: %.40q %d, want %.40q %d", s, e, text, err)
		}
		if w.Len() != length {
			t.Errorf("Len: %d, want %d", w.Len(), length)
		}
	}
}

func wantReader(t *testing.T, r *reel.Reader, left int, end api.Errno) {
	t.Helper()
	for range 2 {
		if r.Left() != left || r.End() != end {
			t.Errorf("Left %d, End %d, want %d %d", r.Left(), r.End(), left, end)
		}
	}
}

// texts are some that can be written, by their bytes.
func texts() map[string]item {
	long := strings.Repeat("\xffa\x00", 21845)
	return map[string]item{
		"\x02ab":                {kind: kindText, text: "ab"},
		"\x00":                  {kind: kindText},
		"\x03\x00\xff\x80":      {kind: kindText, text: "\x00\xff\x80"},
		"\xff\xff\x03" + long:   {kind: kindText, text: long},
		"\x7f" + long[:127]:     {kind: kindText, text: long[:127]},
		"\x80\x01" + long[:128]: {kind: kindText, text: long[:128]},
	}
}

func numbers() map[uint64]string {
	ff := strings.Repeat("\xff", 9)
	zero := strings.Repeat("\x80", 9)
	m := map[uint64]string{
		0: "\x00", 1: "\x01", 2: "\x02", 126: "\x7e", 300: "\xac\x02", 1 << 32: "\x80\x80\x80\x80\x10",
		1<<63 - 1: ff[:8] + "\x7f", 1 << 63: zero + "\x01", 1<<63 + 1: "\x81" + zero[:8] + "\x01",
		math.MaxUint64: ff + "\x01", math.MaxUint64 - 1: "\xfe" + ff[:8] + "\x01",
	}
	for size := 1; size < 10; size++ {
		m[1<<(7*size)-1] = ff[:size-1] + "\x7f"
		m[1<<(7*size)] = zero[:size] + "\x01"
	}
	return m
}

func TestNumBothWays(t *testing.T) { // P1.1
	for n, text := range numbers() {
		w := reel.New(len(text))
		w.Num(n)
		wantWriter(t, w, text, api.OK, len(text))
		r := reel.Read(text + "!")
		if got := r.Num(); got != n {
			t.Errorf("%x: %d, want %d", text, got, n)
		}
		wantReader(t, r, 1, api.ErrBytes)
	}
}

func TestIntBothWays(t *testing.T) { // P1.1
	ff := strings.Repeat("\xff", 9)
	for n, text := range map[int64]string{
		0: "\x00", -1: "\x01", 1: "\x02", -2: "\x03", 2: "\x04", 63: "\x7e", -64: "\x7f", 64: "\x80\x01", -65: "\x81\x01",
		150: "\xac\x02", math.MaxInt64: "\xfe" + ff[:8] + "\x01", math.MinInt64: ff + "\x01", math.MinInt64 + 1: "\xfd" + ff[:8] + "\x01",
	} {
		w := reel.New(len(text))
		w.Int(n)
		wantWriter(t, w, text, api.OK, len(text))
		r := reel.Read(text + "!")
		if got := r.Int(); got != n {
			t.Errorf("%x: %d, want %d", text, got, n)
		}
		wantReader(t, r, 1, api.ErrBytes)
	}
}

func TestByteBothWays(t *testing.T) { // P1.1
	for n := range 256 {
		text := string([]byte{byte(n)})
		w := reel.New(1)
		w.Byte(n)
		wantWriter(t, w, text, api.OK, 1)
		r := reel.Read(text)
		if got := r.Byte(); got != n {
			t.Errorf("%d, want %d", got, n)
		}
		wantReader(t, r, 0, api.OK)
	}
}

func TestTextBothWays(t *testing.T) { // P1.1
	for text, x := range texts() {
		w := reel.New(len(text))
		w.Text(x.text)
		wantWriter(t, w, text, api.OK, len(text))
		r := reel.Read(text + "!")
		if got := r.Text(); got != x.text {
			t.Errorf("%d bytes, want %d", len(got), len(x.text))
		}
		wantReader(t, r, 1, api.ErrBytes)
	}
}

func wrongFields() []item {
	return []item{
		{kind: kindByte, one: -1}, {kind: kindByte, one: 256}, {kind: kindByte, one: 257},
		{kind: kindByte, one: math.MinInt}, {kind: kindByte, one: math.MaxInt},
		{kind: kindText, text: strings.Repeat("a", 65536)}, {kind: kindText, text: strings.Repeat("a", 70000)},
	}
}

func TestWrongFieldIsAheadOfTheLimit(t *testing.T) { // P1.1
	for _, x := range wrongFields() {
		for _, limit := range []int{-1, 0, 5, plenty} {
			w := reel.New(limit)
			write(w, x)
			wantWriter(t, w, "", api.ErrField, 0)
		}
	}
}

func TestWriterStopsAtItsFirstError(t *testing.T) { // P1.1
	fits := []item{{kind: kindNum, num: 1}, {kind: kindInt, whole: -1}, {kind: kindByte, one: 1}, {kind: kindText}}
	for _, x := range wrongFields() {
		w := reel.New(4)
		w.Num(300)
		write(w, x)
		for _, y := range fits {
			write(w, y)
			wantWriter(t, w, "", api.ErrField, 2)
		}
		w.Num(math.MaxUint64)
		wantWriter(t, w, "", api.ErrField, 2)
	}
	for _, x := range []item{{kind: kindNum, num: 1 << 14}, {kind: kindInt, whole: 1 << 13}, {kind: kindText, text: "ab"}} {
		w := reel.New(4)
		w.Num(300)
		write(w, x)
		for _, y := range append(wrongFields(), fits...) {
			write(w, y)
			wantWriter(t, w, "", api.ErrLong, 2)
		}
	}
}

func TestWriterGoesOnBehindDone(t *testing.T) { // P1.1
	w := reel.New(10)
	wantWriter(t, w, "", api.OK, 0)
	w.Text("ab")
	first, _ := w.Done()
	w.Byte(7)
	wantWriter(t, w, "\x02ab\x07", api.OK, 4)
	if first != "\x02ab" {
		t.Errorf("%q", first)
	}
}

func TestWritersKnowNothingOfOneAnother(t *testing.T) { // P1.1
	a, b := reel.New(3), reel.New(3)
	a.Byte(1)
	b.Byte(2)
	a.Byte(256)
	b.Byte(3)
	wantWriter(t, a, "", api.ErrField, 1)
	wantWriter(t, b, "\x02\x03", api.OK, 2)
}

func TestLimit(t *testing.T) { // P1.3, P1.1
	items := []item{
		{kind: kindByte, one: 9}, {kind: kindNum, num: 127}, {kind: kindNum, num: 128}, {kind: kindNum, num: math.MaxUint64},
		{kind: kindInt, whole: -64}, {kind: kindInt, whole: 64}, {kind: kindInt, whole: math.MinInt64},
		{kind: kindText}, {kind: kindText, text: "abc"}, {kind: kindText, text: strings.Repeat("x", 128)},
	}
	for _, x := range items {
		text := written(t, x)
		for limit := -2; limit < len(text)+3; limit++ {
			w := reel.New(limit)
			write(w, x)
			if limit < len(text) {
				wantWriter(t, w, "", api.ErrLong, 0)
			} else {
				wantWriter(t, w, text, api.OK, len(text))
			}
		}
	}
}

func TestLimitBelowNought(t *testing.T) { // P1.3
	for _, limit := range []int{-1, -2, math.MinInt, math.MinInt + 1, 0} {
		w := reel.New(limit)
		wantWriter(t, w, "", api.OK, 0)
		w.Byte(1)
		wantWriter(t, w, "", api.ErrLong, 0)
	}
}

func TestGreatestLimit(t *testing.T) { // P1.3
	w := reel.New(math.MaxInt)
	w.Text("a")
	w.Num(5)
	wantWriter(t, w, "\x01a\x05", api.OK, 3)
}

func TestLimitOfARow(t *testing.T) { // P1.3
	next := numbersFrom(3)
	for range 3000 {
		limit := int(next()%40) - 3
		w := reel.New(limit)
		have, stopped := "", false
		for range 12 {
			x := anyItem(next)
			s := written(t, x)
			write(w, x)
			stopped = stopped || len(have)+len(s) > limit
			if !stopped {
				have += s
			}
			if w.Len() != len(have) || w.Len() > max(limit, 0) {
				t.Fatalf("limit %d: Len %d, want %d", limit, w.Len(), len(have))
			}
		}
		if stopped {
			wantWriter(t, w, "", api.ErrLong, len(have))
		} else {
			wantWriter(t, w, have, api.OK, len(have))
		}
	}
}

func TestReadWrongNumbers(t *testing.T) { // P1.1
	ff, zero := strings.Repeat("\xff", 9), strings.Repeat("\x80", 9)
	wrong := map[string]api.Errno{
		"": api.ErrShort, "\x80": api.ErrShort, "\xff": api.ErrShort, "\x80\x80": api.ErrShort,
		ff: api.ErrShort, zero: api.ErrShort,
		"\x80\x00": api.ErrField, "\xff\x00": api.ErrField, "\x80\x80\x00": api.ErrField, "\x80\x00\x01": api.ErrField,
		ff + "\x00": api.ErrField, ff + "\x02": api.ErrField, ff + "\x7f": api.ErrField, ff + "\x80": api.ErrField,
		ff + "\x81": api.ErrField, ff + "\xff": api.ErrField, ff + "\x81\x00": api.ErrField, ff + "\x80\x01": api.ErrField,
		zero + "\x00": api.ErrField, zero + "\x80": api.ErrField, zero + "\x02": api.ErrField, ff + ff: api.ErrField,
	}
	for text, err := range wrong {
		for _, kind := range []int{kindNum, kindInt, kindText} {
			wantStop(t, "", text, kind, err)
			wantStop(t, "\xac\x02", text, kind, err)
		}
	}
	wantStop(t, "", "", kindByte, api.ErrShort)
	wantStop(t, "\x05", "", kindByte, api.ErrShort)
}

func TestReadShortTexts(t *testing.T) { // P1.1
	for _, text := range []string{
		"\x01", "\x03ab", "\x80\x01" + strings.Repeat("a", 127), "\xff\xff\x03" + strings.Repeat("a", 65534),
		"\xff\xff\xff\xff\xff\xff\xff\xff\x7fabc", "\x80\x80\x80\x80\x80\x80\x80\x80\x80\x01abc",
		"\xff\xff\xff\xff\xff\xff\xff\xff\xff\x01abc", "\xf7\xff\xff\xff\xff\xff\xff\xff\xff\x01abc",
	} {
		wantStop(t, "", text, kindText, api.ErrShort)
		wantStop(t, "\xac\x02", text, kindText, api.ErrShort)
	}
}

// wantStop reads a number where head isn't empty, then what can't be read, then all kinds again.
func wantStop(t *testing.T, head, text string, kind int, err api.Errno) {
	t.Helper()
	r := reel.Read(head + text)
	if head != "" {
		r.Num()
	}
	for _, k := range []int{kind, kindNum, kindInt, kindByte, kindText, kind} {
		if x := read(r, k); x != (item{kind: k}) {
			t.Errorf("%.20q: %v", text, x)
		}
		wantReader(t, r, len(text), err)
	}
}

// A text's length has no bound in reading but the bytes that are there.
func TestReadTextPastWhatIsWritten(t *testing.T) { // P1.1
	long := strings.Repeat("a", 65536)
	r := reel.Read("\x80\x80\x04" + long)
	if r.Text() != long {
		t.Error("text")
	}
	wantReader(t, r, 0, api.OK)
}

func TestReadAllShortTexts(t *testing.T) { // P1.1, P1.2
	check := func(s string) {
		r := reel.Read(s)
		n := r.Num()
		used := len(s) - r.Left()
		if got := r.End(); got == api.ErrShort || got == api.ErrField {
			if n != 0 || used != 0 || got != numError(s) {
				t.Fatalf("%x: %d, %d used, %d", s, n, used, got)
			}
			return
		}
		if numError(s) != api.OK || written(t, item{num: n}) != s[:used] {
			t.Fatalf("%x: %d, %d used, %d", s, n, used, r.End())
		}
	}
	check("")
	for a := range 256 {
		check(string([]byte{byte(a)}))
		for b := range 256 {
			check(string([]byte{byte(a), byte(b)}))
			check(string([]byte{byte(a), byte(b), 0}))
			check("\xff\x80\xff\x80\xff\x80\xff\x80" + string([]byte{byte(a), byte(b)}))
		}
	}
}

// numError is told from the place of the number's last byte alone.
func numError(s string) api.Errno {
	last := 0
	for last < len(s) && s[last] >= 128 {
		last++
	}
	switch {
	case last == len(s) && last < 10:
		return api.ErrShort
	case last > 9 || last > 0 && s[last] == 0 || last == 9 && s[last] > 1:
		return api.ErrField
	}
	return api.OK
}

func TestEnd(t *testing.T) { // P1.1
	wantReader(t, reel.Read(""), 0, api.OK)
	r := reel.Read("ab")
	wantReader(t, r, 2, api.ErrBytes)
	r.Byte()
	wantReader(t, r, 1, api.ErrBytes)
	r.Byte()
	wantReader(t, r, 0, api.OK)
	r.Byte()
	wantReader(t, r, 0, api.ErrShort)
}

func TestNil(t *testing.T) { // P1.1, R7
	var w *reel.Writer
	for _, x := range append(wrongFields(), item{kind: kindNum, num: 1}, item{kind: kindInt, whole: 1}, item{kind: kindByte}, item{kind: kindText}) {
		write(w, x)
		wantWriter(t, w, "", api.ErrArg, 0)
	}
	var r *reel.Reader
	for kind := range kinds {
		if x := read(r, kind); x != (item{kind: kind}) {
			t.Errorf("%v", x)
		}
		wantReader(t, r, 0, api.ErrArg)
	}
}

// numbersFrom is a row of numbers that is the same at each run.
func numbersFrom(seed uint64) func() uint64 {
	return func() uint64 {
		seed += 0x9e3779b97f4a7c15
		x := seed
		x = (x ^ x>>30) * 0xbf58476d1ce4e5b9
		x = (x ^ x>>27) * 0x94d049bb133111eb
		return x ^ x>>31
	}
}

func anyItem(next func() uint64) item {
	x := item{kind: int(next() % kinds)}
	n := next() >> (next() % 64)
	switch x.kind {
	case kindNum:
		x.num = n
	case kindInt:
		x.whole = int64(n)
		if next()%2 == 0 {
			x.whole = -x.whole
		}
	case kindByte:
		x.one = int(n % 256)
	case kindText:
		x.text = strings.Repeat(string([]byte{byte(n)}), int(next()%6))
	}
	return x
}

func TestWrittenIsReadAgain(t *testing.T) { // P1.2
	next := numbersFrom(1)
	for range 3000 {
		row := make([]item, next()%20)
		for i := range row {
			row[i] = anyItem(next)
		}
		r := reel.Read(written(t, row...))
		for _, x := range row {
			if got := read(r, x.kind); got != x {
				t.Fatalf("%v, want %v", got, x)
			}
		}
		wantReader(t, r, 0, api.OK)
	}
}

func TestReadIsWrittenAgain(t *testing.T) { // P1.2
	next := numbersFrom(2)
	ends := map[api.Errno]int{}
	for range 30000 {
		ends[readAndWrite(t, next)]++
	}
	for _, err := range []api.Errno{api.OK, api.ErrShort, api.ErrField} {
		if ends[err] < 100 {
			t.Errorf("error %d met %d times", err, ends[err])
		}
	}
}

// readAndWrite reads few bytes, most of them at numbers' edges, as whatever kinds, till there is nothing more.
func readAndWrite(t *testing.T, next func() uint64) api.Errno {
	t.Helper()
	edges := []byte{0, 1, 2, 127, 128, 129, 255, 255}
	b := make([]byte, next()%14)
	for i := range b {
		b[i] = edges[next()%8]
	}
	r := reel.Read(string(b))
	var row []item
	for r.End() == api.ErrBytes {
		row = append(row, read(r, int(next()%kinds)))
	}
	if r.End() == api.OK && written(t, row...) != string(b) {
		t.Fatalf("%x was read as %v", b, row)
	}
	return r.End()
}

func TestUnlikeNumbersHaveUnlikeBytes(t *testing.T) { // P1.2
	seen := map[string]uint64{}
	for n := range uint64(40000) {
		s := written(t, item{num: n})
		if m, ok := seen[s]; ok {
			t.Fatalf("%d and %d are both %x", m, n, s)
		}
		seen[s] = n
	}
}
