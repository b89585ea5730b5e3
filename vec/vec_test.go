package vec_test

import (
	"math"
	"slices"
	"testing"

	"proofmark/api"
	"proofmark/vec"
)

// P8.1, H2: the greatest number of so many bits, of all widths; of none, of one, and of 32 among them.
func TestMask(t *testing.T) {
	want := 0
	for w := range 33 {
		if got := vec.Mask(w); got != want {
			t.Errorf("Mask(%d) = %d; want %d", w, got, want)
		}
		want = want*2 + 1
	}
}

func wantBits(t *testing.T, n, w int, want ...bool) {
	t.Helper()
	if got := vec.Bits(n, w); !slices.Equal(got, want) {
		t.Errorf("Bits(%d, %d) = %v; want %v", n, w, got, want)
	}
	if got := vec.Num(want); got != n {
		t.Errorf("Num(%v) = %d; want %d", want, got, n)
	}
}

// P8.1, H2: bits of a number, and the number of bits: none, one, a few.
func TestBits(t *testing.T) {
	wantBits(t, 0, 0)
	wantBits(t, 0, 1, false)
	wantBits(t, 1, 1, true)
	wantBits(t, 0, 2, false, false)
	wantBits(t, 1, 2, true, false)
	wantBits(t, 2, 2, false, true)
	wantBits(t, 3, 2, true, true)
	wantBits(t, 6, 4, false, true, true, false)
	wantBits(t, 9, 4, true, false, false, true)
	wantBits(t, 1, 6, true, false, false, false, false, false)
	wantBits(t, 32, 6, false, false, false, false, false, true)
}

// P8.1, H2: 32 bits: none of them set, all, and each by itself.
func TestManyBits(t *testing.T) {
	row := make([]bool, 32)
	wantBits(t, 0, 32, row...)
	for i := range row {
		row[i] = true
		wantBits(t, 1<<i, 32, row...)
		row[i] = false
	}
	for i := range row {
		row[i] = true
	}
	wantBits(t, 1<<32-1, 32, row...)
	row[0] = false
	wantBits(t, 1<<32-2, 32, row...)
	row[0], row[31] = true, false
	wantBits(t, 1<<31-1, 32, row...)
}

// P8.1, H2: no bits at all, in whatever row.
func TestNoBits(t *testing.T) {
	if l := vec.Bits(0, 0); len(l) != 0 {
		t.Errorf("Bits(0, 0) = %v", l)
	}
	if n, m := vec.Num(nil), vec.Num([]bool{}); n != 0 || m != 0 {
		t.Errorf("Num of no bits = %d, %d", n, m)
	}
}

// The rule P3: what was told is not changed by what is told later; what was handed in is not changed.
func TestBitsAreNew(t *testing.T) {
	first, second := vec.Bits(5, 3), vec.Bits(5, 3)
	first[0], first[1], first[2] = false, true, false
	if want := []bool{true, false, true}; !slices.Equal(second, want) || !slices.Equal(vec.Bits(5, 3), want) {
		t.Errorf("P3: Bits(5, 3) = %v once another one was changed", second)
	}
	row := []bool{true, false, true, true, false}
	kept := slices.Clone(row)
	if vec.Num(row) != 13 || vec.Num(row) != 13 || !slices.Equal(row, kept) {
		t.Errorf("P3: Num changed %v to %v, or tells another number", kept, row)
	}
}

// The rule P1, and beyond it: of other widths and numbers nothing is said, but nothing panics, and all ends.
func TestNoPanicOfOtherBits(t *testing.T) {
	for _, w := range odd {
		vec.Mask(w)
		for _, n := range odd {
			vec.Bits(n, w)
		}
	}
	for _, size := range []int{33, 63, 64, 65, 200} {
		vec.Num(slices.Repeat([]bool{true}, size))
	}
}

// odd are numbers that most calls do not speak of.
var odd = []int{math.MinInt, -1 << 32, -64, -17, -1, 0, 1, 15, 16, 17, 31, 32, 33, 63, 64, 65, 65536, 1 << 32, math.MaxInt}

// The rule P1, and beyond it: of other nodes and operands nothing is said, but nothing panics, and all ends.
func TestNoPanicOfOtherNodes(t *testing.T) {
	few := []int{math.MinInt, -1, 0, 17, 64, math.MaxInt}
	for _, op := range append([]int{-1, 0, 2, 19, 20, 21, 22, 23, math.MinInt, math.MaxInt}, allOps...) {
		for _, w := range odd {
			for _, lo := range odd {
				for _, a := range few {
					for _, wb := range few {
						vec.Do(api.Node{Op: op, W: w, N: a, Lo: lo}, a, wb, a, wb)
					}
				}
			}
		}
	}
}

// An Op that makes nothing of numbers: nothing is said of it; here it is 0.
func TestOtherOps(t *testing.T) {
	for _, op := range []int{-1, 0, api.Ref, api.Read, api.Past, api.In, api.State, 23, math.MaxInt} {
		if got := vec.Do(api.Node{Op: op, W: 4, N: 3, Lo: 1}, 5, 6, 7, 2); got != 0 {
			t.Errorf("Op %d makes %d", op, got)
		}
	}
}
