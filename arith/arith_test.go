package arith_test

import (
	"math"
	"math/big"
	"testing"

	"callboy/api"
	"callboy/arith"
)

const (
	least = math.MinInt64
	most  = math.MaxInt64
)

// numbers are those near 0, near each power of 2 and near both ends, with both signs.
func numbers() []int64 {
	list := []int64{least, least + 1, least + 2, most, most - 1, 3037000499, 3037000500, -3037000500, 1000000007, -6700417}
	for n := int64(-12); n <= 12; n++ {
		list = append(list, n)
	}
	for shift := 4; shift < 63; shift++ {
		n := int64(1) << shift
		list = append(list, n-1, n, n+1, -n-1, -n, -n+1)
	}
	return list
}

// wrap brings a whole number into 64 bits with a sign.
func wrap(n *big.Int) int64 {
	low := new(big.Int).And(n, new(big.Int).SetUint64(math.MaxUint64))
	return int64(low.Uint64())
}

func truth(b bool) int64 {
	if b {
		return 1
	}
	return 0
}

// want is what Two must answer, worked out by numbers without a bound.
func want(op int, a, b int64) (int64, api.Errno) {
	x, y, z := big.NewInt(a), big.NewInt(b), new(big.Int)
	switch op {
	case api.OpAdd:
		return wrap(z.Add(x, y)), api.OK
	case api.OpSub:
		return wrap(z.Sub(x, y)), api.OK
	case api.OpMul:
		return wrap(z.Mul(x, y)), api.OK
	case api.OpDiv, api.OpRem:
		if b == 0 {
			return 0, api.ErrDiv
		}
		q, r := z.QuoRem(x, y, new(big.Int))
		if op == api.OpDiv {
			return wrap(q), api.OK
		}
		return wrap(r), api.OK
	case api.OpLess:
		return truth(x.Cmp(y) < 0), api.OK
	case api.OpEq:
		return truth(x.Cmp(y) == 0), api.OK
	case api.OpAnd:
		return truth(x.Sign() != 0 && y.Sign() != 0), api.OK
	case api.OpOr:
		return truth(x.Sign() != 0 || y.Sign() != 0), api.OK
	}
	return 0, api.ErrKind
}

// otherOps are numbers that are no instruction at all.
func otherOps() []int {
	list := []int{math.MinInt, math.MinInt + 6, math.MaxInt, math.MaxInt - 6, 1<<8 + 6, 1<<16 + 9, 1<<32 + 10, 1<<32 + 13, 1<<48 + 15, -1<<32 + 13, -1<<63 + 13}
	for op := -300; op < 0; op++ {
		list = append(list, op)
	}
	for op := api.OpDup + 1; op < 300; op++ {
		list = append(list, op)
	}
	return list
}

func twoOps() []int {
	return []int{api.OpAdd, api.OpSub, api.OpMul, api.OpDiv, api.OpRem, api.OpLess, api.OpEq, api.OpAnd, api.OpOr}
}

func TestTwoAtTheEdges(t *testing.T) { // P3.1
	for _, x := range []struct {
		op      int
		a, b, n int64
	}{
		{api.OpAdd, 2, 3, 5}, {api.OpAdd, 2, -3, -1}, {api.OpAdd, 0, 0, 0}, {api.OpAdd, most, least, -1},
		{api.OpAdd, most, 1, least}, {api.OpAdd, 1, most, least}, {api.OpAdd, most, most, -2},
		{api.OpAdd, least, -1, most}, {api.OpAdd, least, least, 0},
		{api.OpSub, 2, 3, -1}, {api.OpSub, 3, 2, 1}, {api.OpSub, least, 1, most}, {api.OpSub, most, -1, least},
		{api.OpSub, 0, least, least}, {api.OpSub, -1, least, most}, {api.OpSub, least, most, 1}, {api.OpSub, most, least, -1},
		{api.OpMul, 6, 7, 42}, {api.OpMul, -6, 7, -42}, {api.OpMul, -6, -7, 42}, {api.OpMul, 0, least, 0},
		{api.OpMul, most, 2, -2}, {api.OpMul, most, most, 1}, {api.OpMul, least, -1, least}, {api.OpMul, least, 2, 0},
		{api.OpMul, least, least, 0}, {api.OpMul, least, most, least}, {api.OpMul, 1 << 32, 1 << 32, 0}, {api.OpMul, 1 << 32, 1 << 31, least},
		{api.OpMul, 3037000500, 3037000500, -9223372036709301616},
		{api.OpDiv, 7, 2, 3}, {api.OpDiv, -7, 2, -3}, {api.OpDiv, 7, -2, -3}, {api.OpDiv, -7, -2, 3},
		{api.OpRem, 7, 2, 1}, {api.OpRem, -7, 2, -1}, {api.OpRem, 7, -2, 1}, {api.OpRem, -7, -2, -1},
		{api.OpDiv, 6, 2, 3}, {api.OpDiv, -6, 2, -3}, {api.OpDiv, 1, 2, 0}, {api.OpDiv, -1, 2, 0}, {api.OpDiv, 0, -5, 0},
		{api.OpRem, 6, 2, 0}, {api.OpRem, -6, 2, 0}, {api.OpRem, 1, 2, 1}, {api.OpRem, -1, 2, -1}, {api.OpRem, 0, -5, 0},
		{api.OpDiv, least, -1, least}, {api.OpRem, least, -1, 0}, {api.OpDiv, most, -1, -most}, {api.OpRem, most, -1, 0},
		{api.OpDiv, least, 1, least}, {api.OpRem, least, 1, 0}, {api.OpDiv, least, least, 1}, {api.OpRem, least, least, 0},
		{api.OpDiv, least, most, -1}, {api.OpRem, least, most, -1}, {api.OpDiv, most, least, 0}, {api.OpRem, most, least, most},
		{api.OpDiv, -1, least, 0}, {api.OpRem, -1, least, -1}, {api.OpDiv, least, 2, -1 << 62}, {api.OpRem, least, 3, -2},
		{api.OpLess, 1, 2, 1}, {api.OpLess, 2, 1, 0}, {api.OpLess, 1, 1, 0}, {api.OpLess, -1, 0, 1}, {api.OpLess, 0, -1, 0},
		{api.OpLess, least, most, 1}, {api.OpLess, most, least, 0}, {api.OpLess, least, least, 0}, {api.OpLess, least, 1, 1},
		{api.OpEq, 3, 3, 1}, {api.OpEq, 3, 4, 0}, {api.OpEq, 0, 0, 1}, {api.OpEq, 1, 2, 0}, {api.OpEq, 5, -5, 0},
		{api.OpEq, least, least, 1}, {api.OpEq, least, most, 0}, {api.OpEq, 1, 1<<32 + 1, 0},
		{api.OpAnd, 0, 0, 0}, {api.OpAnd, 0, 1, 0}, {api.OpAnd, 1, 0, 0}, {api.OpAnd, 1, 1, 1}, {api.OpAnd, 2, -1, 1},
		{api.OpAnd, 1, 2, 1}, {api.OpAnd, 4, 8, 1}, {api.OpAnd, least, most, 1}, {api.OpAnd, least, 0, 0}, {api.OpAnd, 0, 1 << 32, 0}, {api.OpAnd, 1 << 32, 1, 1},
		{api.OpOr, 0, 0, 0}, {api.OpOr, 0, 1, 1}, {api.OpOr, 1, 0, 1}, {api.OpOr, 1, 1, 1}, {api.OpOr, 2, 0, 1},
		{api.OpOr, 0, -1, 1}, {api.OpOr, 4, 8, 1}, {api.OpOr, 0, least, 1}, {api.OpOr, least, least, 1}, {api.OpOr, 1 << 32, 0, 1}, {api.OpOr, 5, -5, 1},
	} {
		if n, e := arith.Two(x.op, x.a, x.b); n != x.n || e != api.OK {
			t.Errorf("Two(%d, %d, %d) = %d, %d: want %d", x.op, x.a, x.b, n, e, x.n)
		}
	}
}

func TestTwoAsNumbersWithoutABound(t *testing.T) { // P3.1
	for _, op := range twoOps() {
		for _, a := range numbers() {
			for _, b := range numbers() {
				wantN, wantE := want(op, a, b)
				if n, e := arith.Two(op, a, b); n != wantN || e != wantE {
					t.Fatalf("Two(%d, %d, %d) = %d, %d: want %d, %d", op, a, b, n, e, wantN, wantE)
				}
			}
		}
	}
}

func TestByNought(t *testing.T) { // P3.1
	for _, a := range numbers() {
		for _, op := range []int{api.OpDiv, api.OpRem} {
			if n, e := arith.Two(op, a, 0); n != 0 || e != api.ErrDiv {
				t.Errorf("Two(%d, %d, 0) = %d, %d", op, a, n, e)
			}
		}
		for _, op := range []int{api.OpAdd, api.OpSub, api.OpMul, api.OpLess, api.OpEq, api.OpAnd, api.OpOr} {
			if _, e := arith.Two(op, a, 0); e != api.OK {
				t.Errorf("Two(%d, %d, 0): error %d", op, a, e)
			}
		}
	}
}

func TestTwoOfAnotherOp(t *testing.T) { // P3.1
	others := append(otherOps(), api.OpHalt, api.OpPush, api.OpTrue, api.OpFalse, api.OpLoad, api.OpStore, api.OpNot,
		api.OpJump, api.OpUnless, api.OpSelf, api.OpSpawn, api.OpSend, api.OpRecv, api.OpLink, api.OpExit, api.OpOut, api.OpDrop, api.OpDup)
	for _, op := range others {
		for _, x := range [][2]int64{{0, 0}, {1, 1}, {7, 0}, {0, 7}, {least, -1}, {most, least}} {
			if n, e := arith.Two(op, x[0], x[1]); n != 0 || e != api.ErrKind {
				t.Errorf("Two(%d, %d, %d) = %d, %d", op, x[0], x[1], n, e)
			}
		}
	}
}

func TestNot(t *testing.T) { // P3.1
	for _, a := range numbers() {
		if n, e := arith.One(api.OpNot, a); n != truth(a == 0) || e != api.OK {
			t.Errorf("One(OpNot, %d) = %d, %d", a, n, e)
		}
	}
}

func TestOneOfAnotherOp(t *testing.T) { // P3.1
	others := otherOps()
	for op := api.OpHalt; op <= api.OpDup; op++ {
		if op != api.OpNot {
			others = append(others, op)
		}
	}
	for _, op := range others {
		for _, a := range []int64{0, 1, -1, 2, least, most} {
			if n, e := arith.One(op, a); n != 0 || e != api.ErrKind {
				t.Errorf("One(%d, %d) = %d, %d", op, a, n, e)
			}
		}
	}
}

func TestTruth(t *testing.T) { // P3.1
	if n := arith.Truth(true); n != 1 {
		t.Error("Truth(true) =", n)
	}
	if n := arith.Truth(false); n != 0 {
		t.Error("Truth(false) =", n)
	}
}

// nearer holds sizes against each other as numbers without a sign, so that the least number has one too.
func nearer(a, b int64) bool {
	size := func(n int64) uint64 {
		if n < 0 {
			return -uint64(n)
		}
		return uint64(n)
	}
	return size(a) < size(b)
}

func TestQuotientAndWhatIsLeft(t *testing.T) { // P3.2
	for _, a := range numbers() {
		for _, b := range numbers() {
			if b == 0 {
				continue
			}
			q, e := arith.Two(api.OpDiv, a, b)
			r, f := arith.Two(api.OpRem, a, b)
			if e != api.OK || f != api.OK {
				t.Fatalf("%d by %d: errors %d, %d", a, b, e, f)
			}
			if q*b+r != a {
				t.Errorf("%d by %d: %d times b and %d are not a", a, b, q, r)
			}
			if !nearer(r, b) {
				t.Errorf("%d by %d: %d is left, not nearer to 0 than b", a, b, r)
			}
			if r != 0 && (r < 0) != (a < 0) {
				t.Errorf("%d by %d: %d is left, with another sign than a", a, b, r)
			}
		}
	}
}

func TestTheSameAgain(t *testing.T) { // R6: nothing is kept, not even by a call that was refused
	for _, op := range append(twoOps(), api.OpNot, 99) {
		n, e := arith.Two(op, 17, -5)
		arith.Two(api.OpDiv, 1, 0)
		arith.One(api.OpAdd, 1)
		if m, f := arith.Two(op, 17, -5); m != n || f != e {
			t.Errorf("Two(%d, 17, -5): %d, %d, then %d, %d", op, n, e, m, f)
		}
	}
}
