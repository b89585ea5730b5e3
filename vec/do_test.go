package vec_test

import (
	"testing"

	"proofmark/api"
	"proofmark/vec"
)

var allOps = []int{api.Lit, api.Inv, api.RedOr, api.RedAnd, api.And, api.Or, api.Xor, api.Add, api.Sub, api.Mul,
	api.Eq, api.Ne, api.Lt, api.Le, api.Mux, api.Cat, api.Slice}

func wantDo(t *testing.T, n api.Node, a, b, c, wb, want int) {
	t.Helper()
	if got := vec.Do(n, a, b, c, wb); got != want {
		t.Errorf("Do(%+v, %d, %d, %d, %d) = %d; want %d", n, a, b, c, wb, got, want)
	}
}

// wantTwo is of an op with two operands, of W bits, or, where W is 1, of Lo.
func wantTwo(t *testing.T, op, w, a, b, want int) {
	t.Helper()
	n := api.Node{Op: op, W: w}
	switch op {
	case api.Eq, api.Ne, api.Lt, api.Le:
		n.W, n.Lo = 1, w
	}
	wantDo(t, n, a, b, 0, w, want)
}

// wantRed is of an op that tells of all bits of one operand.
func wantRed(t *testing.T, op, w, a, want int) {
	t.Helper()
	wantDo(t, api.Node{Op: op, W: 1, Lo: w}, a, 0, 0, 0, want)
}

func most(w int) int { return 1<<w - 1 }

// P8.1: the chapter's example.
func TestExample(t *testing.T) {
	wantTwo(t, api.Sub, 4, 2, 3, 15)
}

// P8.1, H1: Lit of 0, of the greatest number, and between them.
func TestLit(t *testing.T) {
	for w := 1; w <= 16; w++ {
		for _, n := range []int{0, 1, most(w) / 2, most(w)} {
			wantDo(t, api.Node{Op: api.Lit, W: w, N: n}, 0, 0, 0, 0, n)
		}
	}
	wantDo(t, api.Node{Op: api.Lit, W: 4, N: 9}, 0, 0, 0, 0, 9)
}

// P8.1, H1: Inv of 0, of the greatest number, and between them.
func TestInv(t *testing.T) {
	for w := 1; w <= 16; w++ {
		n := api.Node{Op: api.Inv, W: w}
		wantDo(t, n, 0, 0, 0, 0, most(w))
		wantDo(t, n, most(w), 0, 0, 0, 0)
		wantDo(t, n, 1, 0, 0, 0, most(w)-1)
		wantDo(t, n, most(w)-1, 0, 0, 0, 1)
	}
	wantDo(t, api.Node{Op: api.Inv, W: 4}, 5, 0, 0, 0, 10)
	wantDo(t, api.Node{Op: api.Inv, W: 5}, 5, 0, 0, 0, 26)
}

// P8.1, H1: RedOr and RedAnd of 0, of all bits, of all but one, and of one alone.
func TestRed(t *testing.T) {
	for w := 1; w <= 16; w++ {
		wantRed(t, api.RedOr, w, 0, 0)
		wantRed(t, api.RedOr, w, most(w), 1)
		wantRed(t, api.RedAnd, w, 0, 0)
		wantRed(t, api.RedAnd, w, most(w), 1)
		for i := range w {
			alone, butOne := 1<<i, most(w)-1<<i
			wantRed(t, api.RedOr, w, alone, 1)
			wantRed(t, api.RedAnd, w, butOne, 0)
			if w > 1 {
				wantRed(t, api.RedOr, w, butOne, 1)
				wantRed(t, api.RedAnd, w, alone, 0)
			}
		}
	}
	// What is all bits of a width is not all of one more.
	wantRed(t, api.RedAnd, 3, 7, 1)
	wantRed(t, api.RedAnd, 4, 7, 0)
}

// P8.1, H1: And, Or and Xor, at widths 1 and 16, and between them.
func TestBitByBit(t *testing.T) {
	for _, c := range []struct{ op, w, a, b, want int }{
		{api.And, 1, 0, 0, 0}, {api.And, 1, 0, 1, 0}, {api.And, 1, 1, 0, 0}, {api.And, 1, 1, 1, 1},
		{api.Or, 1, 0, 0, 0}, {api.Or, 1, 0, 1, 1}, {api.Or, 1, 1, 0, 1}, {api.Or, 1, 1, 1, 1},
		{api.Xor, 1, 0, 0, 0}, {api.Xor, 1, 0, 1, 1}, {api.Xor, 1, 1, 0, 1}, {api.Xor, 1, 1, 1, 0},
		{api.And, 4, 12, 10, 8}, {api.Or, 4, 12, 10, 14}, {api.Xor, 4, 12, 10, 6},
		{api.And, 16, 0xff0f, 0x3333, 0x3303}, {api.Or, 16, 0xff0f, 0x3333, 0xff3f}, {api.Xor, 16, 0xff0f, 0x3333, 0xcc3c},
		{api.And, 16, 65535, 65535, 65535}, {api.Or, 16, 0, 0, 0}, {api.Xor, 16, 65535, 65535, 0}, {api.Xor, 16, 65535, 0, 65535},
	} {
		wantTwo(t, c.op, c.w, c.a, c.b, c.want)
	}
}

// P8.1, H1: sums, differences and products that stay in the width, reach its end, and pass it, at widths 1 and 16 too.
func TestReckoned(t *testing.T) {
	for _, c := range []struct{ op, w, a, b, want int }{
		{api.Add, 1, 0, 0, 0}, {api.Add, 1, 0, 1, 1}, {api.Add, 1, 1, 0, 1}, {api.Add, 1, 1, 1, 0},
		{api.Add, 4, 5, 6, 11}, {api.Add, 4, 8, 7, 15}, {api.Add, 4, 8, 8, 0}, {api.Add, 4, 12, 10, 6}, {api.Add, 4, 15, 15, 14},
		{api.Add, 16, 65535, 0, 65535}, {api.Add, 16, 65535, 1, 0}, {api.Add, 16, 1, 65535, 0}, {api.Add, 16, 65535, 65535, 65534}, {api.Add, 16, 32768, 32767, 65535},
		{api.Sub, 1, 0, 0, 0}, {api.Sub, 1, 0, 1, 1}, {api.Sub, 1, 1, 0, 1}, {api.Sub, 1, 1, 1, 0},
		{api.Sub, 4, 10, 3, 7}, {api.Sub, 4, 3, 3, 0}, {api.Sub, 4, 3, 10, 9}, {api.Sub, 4, 0, 15, 1}, {api.Sub, 4, 0, 1, 15},
		{api.Sub, 16, 65535, 0, 65535}, {api.Sub, 16, 65535, 65535, 0}, {api.Sub, 16, 0, 1, 65535}, {api.Sub, 16, 0, 65535, 1},
		{api.Mul, 1, 0, 0, 0}, {api.Mul, 1, 0, 1, 0}, {api.Mul, 1, 1, 0, 0}, {api.Mul, 1, 1, 1, 1},
		{api.Mul, 4, 3, 5, 15}, {api.Mul, 4, 4, 4, 0}, {api.Mul, 4, 7, 5, 3}, {api.Mul, 4, 15, 15, 1}, {api.Mul, 4, 15, 0, 0},
		{api.Mul, 16, 255, 257, 65535}, {api.Mul, 16, 256, 256, 0}, {api.Mul, 16, 65535, 65535, 1}, {api.Mul, 16, 65535, 2, 65534}, {api.Mul, 16, 65535, 1, 65535},
	} {
		wantTwo(t, c.op, c.w, c.a, c.b, c.want)
	}
}

// P8.1, H1: Eq, Ne, Lt and Le of two that are alike, of one that is one below the other, and one above, and of the ends.
func TestTold(t *testing.T) {
	for w := 1; w <= 16; w++ {
		for _, c := range []struct{ a, b, eq, ne, lt, le int }{
			{0, 0, 1, 0, 0, 1}, {most(w), most(w), 1, 0, 0, 1}, {most(w) / 2, most(w) / 2, 1, 0, 0, 1},
			{0, 1, 0, 1, 1, 1}, {most(w) - 1, most(w), 0, 1, 1, 1}, {most(w) / 2, most(w)/2 + 1, 0, 1, 1, 1},
			{1, 0, 0, 1, 0, 0}, {most(w), most(w) - 1, 0, 1, 0, 0}, {most(w)/2 + 1, most(w) / 2, 0, 1, 0, 0},
			{0, most(w), 0, 1, 1, 1}, {most(w), 0, 0, 1, 0, 0},
		} {
			wantTwo(t, api.Eq, w, c.a, c.b, c.eq)
			wantTwo(t, api.Ne, w, c.a, c.b, c.ne)
			wantTwo(t, api.Lt, w, c.a, c.b, c.lt)
			wantTwo(t, api.Le, w, c.a, c.b, c.le)
		}
	}
}

// P8.1, H1: Mux with a 1, and with a 0.
func TestMux(t *testing.T) {
	for w := 1; w <= 16; w++ {
		n := api.Node{Op: api.Mux, W: w}
		for _, c := range []struct{ b, c int }{{0, most(w)}, {most(w), 0}, {1, 0}, {0, 1}, {0, 0}, {most(w), most(w)}} {
			wantDo(t, n, 1, c.b, c.c, w, c.b)
			wantDo(t, n, 0, c.b, c.c, w, c.c)
		}
	}
	wantDo(t, api.Node{Op: api.Mux, W: 4}, 1, 3, 4, 4, 3)
	wantDo(t, api.Node{Op: api.Mux, W: 4}, 0, 3, 4, 4, 4)
}

// P8.1, H1: Cat of widths 1 and 15, the other way round, and of others; a is above, b below.
func TestCat(t *testing.T) {
	for _, c := range []struct{ w, a, b, wb, want int }{
		{16, 1, 0, 15, 32768}, {16, 0, 32767, 15, 32767}, {16, 1, 32767, 15, 65535}, {16, 1, 1, 15, 32769}, {16, 0, 0, 15, 0},
		{16, 32767, 0, 1, 65534}, {16, 0, 1, 1, 1}, {16, 32767, 1, 1, 65535}, {16, 16384, 0, 1, 32768}, {16, 1, 1, 1, 3},
		{16, 0x12, 0x34, 8, 0x1234}, {16, 255, 255, 8, 65535}, {2, 0, 1, 1, 1}, {2, 1, 0, 1, 2}, {2, 1, 1, 1, 3}, {7, 5, 3, 4, 83}, {7, 0, 15, 4, 15},
	} {
		wantDo(t, api.Node{Op: api.Cat, W: c.w}, c.a, c.b, 0, c.wb, c.want)
	}
}

// P8.1, H1: a Slice of one bit, of the lowest, of the highest, of all, and of some between; of operands that go on above N.
func TestSlice(t *testing.T) {
	for _, c := range []struct{ a, hi, lo, want int }{
		{0, 0, 0, 0}, {1, 0, 0, 1}, {2, 0, 0, 0}, {65535, 0, 0, 1}, {65534, 0, 0, 0},
		{32768, 15, 15, 1}, {32767, 15, 15, 0}, {65535, 15, 15, 1}, {65535, 15, 0, 65535}, {0x1234, 15, 0, 0x1234}, {0, 15, 0, 0},
		{13, 2, 1, 2}, {8, 3, 3, 1}, {7, 3, 3, 0}, {0x1234, 11, 4, 0x23}, {0x1234, 15, 8, 0x12}, {0x1234, 7, 0, 0x34},
		{65535, 14, 1, 16383}, {65535, 7, 7, 1}, {65535 - 128, 7, 7, 0}, {5, 2, 0, 5}, {21, 2, 0, 5}, {20, 2, 2, 1},
	} {
		wantDo(t, api.Node{Op: api.Slice, W: c.hi - c.lo + 1, N: c.hi, Lo: c.lo}, c.a, 0, 0, 0, c.want)
	}
}
