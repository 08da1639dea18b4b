// Package reel is layer 1: see shared/doc/01-reel.md.
package reel

import (
	"math/bits"

	"callboy/api"
)

const (
	bitsPerByte = 7
	more        = 1 << bitsPerByte // what each byte of a number but the last has on top
	maxNumBytes = 10
	maxText     = 65535
)

// Writer writes numbers and texts.
type Writer struct {
	limit int
	text  []byte
	err   api.Errno
}

// New begins a writer of at most limit bytes.
func New(limit int) *Writer {
	return &Writer{limit: max(limit, 0)}
}

// Num writes a number without a sign.
func (w *Writer) Num(n uint64) {
	if w.reserve(numLen(n)) {
		w.text = appendNum(w.text, n)
	}
}

// Int writes a number with a sign.
func (w *Writer) Int(n int64) {
	w.Num(unsigned(n))
}

// Byte writes a byte as it is.
func (w *Writer) Byte(n int) {
	if n < 0 || n > 255 {
		w.fail(api.ErrField)
		return
	}
	if w.reserve(1) {
		w.text = append(w.text, byte(n))
	}
}

// Text writes a text's length and its bytes: both of them, or nothing.
func (w *Writer) Text(s string) {
	if len(s) > maxText {
		w.fail(api.ErrField)
		return
	}
	n := uint64(len(s))
	if w.reserve(numLen(n) + len(s)) {
		w.text = append(appendNum(w.text, n), s...)
	}
}

// Len counts what was written ahead of an error, too.
func (w *Writer) Len() int {
	if w == nil {
		return 0
	}
	return len(w.text)
}

// Done tells all bytes, or the first error.
func (w *Writer) Done() (string, api.Errno) {
	if w == nil {
		return "", api.ErrArg
	}
	if w.err != api.OK {
		return "", w.err
	}
	return string(w.text), api.OK
}

// reserve is asked ahead of every writing, for the whole of it, so that nothing is ever written by half.
func (w *Writer) reserve(size int) bool {
	if w == nil || w.err != api.OK {
		return false
	}
	if size > w.limit-len(w.text) {
		w.err = api.ErrLong
		return false
	}
	return true
}

// fail keeps an error, if it is the first one.
func (w *Writer) fail(err api.Errno) {
	if w != nil && w.err == api.OK {
		w.err = err
	}
}

// Reader reads them.
type Reader struct {
	rest string
	err  api.Errno
}

// Read begins a reader at the text's beginning.
func Read(text string) *Reader {
	return &Reader{rest: text}
}

// Num reads a number without a sign.
func (r *Reader) Num() uint64 {
	if r.stopped() {
		return 0
	}
	n, size, err := firstNum(r.rest)
	r.err = err
	r.rest = r.rest[size:]
	return n
}

// Int reads a number with a sign.
func (r *Reader) Int() int64 {
	return signed(r.Num())
}

// Byte reads a byte as it is.
func (r *Reader) Byte() int {
	if r.stopped() {
		return 0
	}
	if r.rest == "" {
		r.err = api.ErrShort
		return 0
	}
	b := r.rest[0]
	r.rest = r.rest[1:]
	return int(b)
}

// Text reads a length and so many bytes.
func (r *Reader) Text() string {
	if r.stopped() {
		return ""
	}
	n, size, err := firstNum(r.rest)
	// Held against what is there as uint64: a length may be more than an int can be.
	if err == api.OK && n > uint64(len(r.rest)-size) {
		err = api.ErrShort
	}
	if err != api.OK {
		r.err = err
		return ""
	}
	end := size + int(n)
	s := r.rest[size:end]
	r.rest = r.rest[end:]
	return s
}

// Left counts the bytes that weren't read.
func (r *Reader) Left() int {
	if r == nil {
		return 0
	}
	return len(r.rest)
}

// End tells the first error, or whether something is left.
func (r *Reader) End() api.Errno {
	if r == nil {
		return api.ErrArg
	}
	if r.err == api.OK && r.rest != "" {
		return api.ErrBytes
	}
	return r.err
}

func (r *Reader) stopped() bool {
	return r == nil || r.err != api.OK
}

// numLen is how many bytes a number takes; 0 takes one, though it has no bit.
func numLen(n uint64) int {
	return max(1, (bits.Len64(n)+bitsPerByte-1)/bitsPerByte)
}

func appendNum(text []byte, n uint64) []byte {
	for n >= more {
		text = append(text, byte(n%more+more))
		n /= more
	}
	return append(text, byte(n))
}

// firstNum reads the number at the text's beginning, and how many bytes it has.
func firstNum(text string) (uint64, int, api.Errno) {
	var n uint64
	for i := range len(text) {
		b := text[i]
		// The tenth byte has the 64th bit alone, so the loop never goes past it.
		if i == maxNumBytes-1 && b > 1 {
			return 0, 0, api.ErrField
		}
		n += uint64(b%more) << (bitsPerByte * i)
		if b >= more {
			continue
		}
		if b == 0 && i > 0 {
			return 0, 0, api.ErrField
		}
		return n, i + 1, api.OK
	}
	return 0, 0, api.ErrShort
}

// unsigned turns n+1 about, not n: the least number has no opposite.
func unsigned(n int64) uint64 {
	if n >= 0 {
		return 2 * uint64(n)
	}
	return 2*uint64(-(n+1)) + 1
}

func signed(n uint64) int64 {
	half := int64(n / 2)
	if n%2 == 0 {
		return half
	}
	return -half - 1
}
