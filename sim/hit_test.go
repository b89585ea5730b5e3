package sim_test

import (
	"math"
	"slices"
	"testing"

	"proofmark/api"
	"proofmark/sim"
)

// lines is a net of pins of one bit, each of which is a property, of these kinds: a row says what all of them are.
func lines(kinds ...int) api.Net {
	var b builder
	for range kinds {
		b.in("i", 1)
	}
	for i, kind := range kinds {
		b.prop(kind, i)
	}
	return b.Net
}

// cyclesOf are rows of digits, a word each.
func cyclesOf(words ...string) [][]int {
	var trace [][]int
	for _, word := range words {
		var l []int
		for _, c := range word {
			l = append(l, int(c-'0'))
		}
		trace = append(trace, l)
	}
	return trace
}

// P11.1, K3: an Assert is hit where it is 0, a Cover where it is 1: at the first cycle, in the midst, at the last, and never.
func TestWhereItIsHit(t *testing.T) {
	for length := range 7 {
		for at := range length {
			cover, assert := repeated(length, 0), repeated(length, 1)
			cover[at][0], assert[at][0] = 1, 0
			wantHit(t, "a Cover", lines(api.Cover), 0, cover, at)
			wantHit(t, "an Assert", lines(api.Assert), 0, assert, at)
		}
		wantNoHit(t, "a Cover", lines(api.Cover), 0, repeated(length, 0))
		wantNoHit(t, "an Assert", lines(api.Assert), 0, repeated(length, 1))
	}
	for _, at := range []int{0, 1, 62, 63} {
		cover, assert := repeated(64, 0), repeated(64, 1)
		cover[at][0], assert[at][0] = 1, 0
		wantHit(t, "a Cover", lines(api.Cover), 0, cover, at)
		wantHit(t, "an Assert", lines(api.Assert), 0, assert, at)
	}
	wantNoHit(t, "a Cover", lines(api.Cover), 0, repeated(64, 0))
	wantNoHit(t, "an Assert", lines(api.Assert), 0, repeated(64, 1))
}

// P11.1, K3: one that is hit at two cycles, and at all: the first is told.
func TestHitTwice(t *testing.T) {
	wantHit(t, "a Cover", lines(api.Cover), 0, rows(0, 1, 0, 1), 1)
	wantHit(t, "a Cover", lines(api.Cover), 0, rows(1, 1), 0)
	wantHit(t, "an Assert", lines(api.Assert), 0, rows(1, 1, 0, 0), 2)
	wantHit(t, "an Assert", lines(api.Assert), 0, repeated(64, 0), 0)
}

// P11.1, K3: an Assume that does not hold at the cycle of the hit, ahead of it, and behind it; it stands ahead of the
// property that is asked, or behind it.
func TestAssumes(t *testing.T) {
	for _, c := range []struct {
		held string // by cycles
		want bool
	}{
		{"11111", true}, {"11110", true}, {"11101", true}, {"11100", true},
		{"11011", false}, {"10111", false}, {"01111", false}, {"00011", false}, {"00000", false},
	} {
		for _, kind := range []int{api.Cover, api.Assert} {
			for _, ahead := range []bool{false, true} {
				n, p := lines(kind, api.Assume), 0
				if ahead {
					n, p = lines(api.Assume, kind), 1
				}
				var trace [][]int
				for k, held := range c.held {
					is := []int{0, int(held - '0')}
					if (k == 2) == (kind == api.Cover) {
						is[0] = 1
					}
					if ahead {
						slices.Reverse(is)
					}
					trace = append(trace, is)
				}
				if c.want {
					wantHit(t, c.held, n, p, trace, 2)
				} else {
					wantNoHit(t, c.held, n, p, trace)
				}
			}
		}
	}
}

// P11.1, K3: the first hit is told though an assumption fails ahead of the second, and no hit comes behind such a one.
func TestAssumeBetweenHits(t *testing.T) {
	n := lines(api.Cover, api.Assume)
	wantHit(t, "between", n, 0, cyclesOf("01", "11", "00", "11"), 1)
	wantNoHit(t, "ahead of both", n, 0, cyclesOf("00", "11", "01", "11"))
	wantNoHit(t, "at the first", n, 0, cyclesOf("01", "10", "11", "11"))
	wantNoHit(t, "at the first cycle", n, 0, cyclesOf("10", "11"))
	wantHit(t, "behind", n, 0, cyclesOf("11", "00", "10"), 0)
}

// P11.1, K3: of several assumptions each counts, wherever it stands; all others that are hit, or not, count nothing.
func TestAllAssumesCount(t *testing.T) {
	n := lines(api.Assume, api.Assert, api.Assume, api.Cover, api.Assume)
	wantHit(t, "all hold", n, 3, cyclesOf("11101", "11111"), 1)
	wantHit(t, "all hold", n, 1, cyclesOf("11101", "10111"), 1)
	for i := range 2 {
		for _, q := range []int{0, 2, 4} {
			trace := cyclesOf("11101", "10111")
			trace[i][q] = 0
			wantNoHit(t, "one does not", n, 3, trace)
			wantNoHit(t, "one does not", n, 1, trace)
		}
	}
	// Asserts that are false ahead, and Covers that are hit, end nothing.
	wantHit(t, "others", n, 3, cyclesOf("10101", "10101", "10111"), 2)
	wantHit(t, "others", n, 1, cyclesOf("11111", "11111", "10101"), 2)
}

// P11.1, K3: a p below 0, of an Assume, and of no property.
func TestNoProperty(t *testing.T) {
	n := lines(api.Assume, api.Cover, api.Assume, api.Assert)
	for _, trace := range [][][]int{nil, repeated(5, 1, 1, 1, 0), repeated(5, 0, 0, 0, 0), cyclesOf("1110", "0110"), cyclesOf("1110", "1100")} {
		for _, p := range []int{-1, -2, -4, math.MinInt, math.MinInt + 1, 0, 2, 4, 5, 16, 64, math.MaxInt} {
			wantNoHit(t, "no property", n, p, trace)
		}
	}
	wantHit(t, "a property", n, 1, repeated(5, 1, 1, 1, 0), 0)
	wantHit(t, "a property", n, 3, repeated(5, 1, 1, 1, 0), 0)
}

// P11.1, K3: all properties of 16, of which each is hit at a cycle of its own.
func TestSixteen(t *testing.T) {
	kinds := []int{api.Cover, api.Assert}
	var all []int
	for i := range 16 {
		all = append(all, kinds[i%2])
	}
	n := lines(all...)
	var trace [][]int
	for k := range 16 {
		var row []int
		for i := range 16 {
			is := i % 2
			if i == 15-k {
				is = 1 - is
			}
			row = append(row, is)
		}
		trace = append(trace, row)
	}
	for p := range 16 {
		wantHit(t, "sixteen", n, p, trace, 15-p)
		wantNoHit(t, "sixteen", n, p, trace[:15-p])
	}
}

// P11.1, K3: what all rows of two cycles, and of three, hit: an Assume, a Cover, an Assert, an Assume.
func TestAllShortTraces(t *testing.T) {
	n := lines(api.Assume, api.Cover, api.Assert, api.Assume)
	rowOf := func(i int) []int { return []int{i & 1, i >> 1 & 1, i >> 2 & 1, i >> 3 & 1} }
	for i := range 16 * 16 * 16 {
		trace := [][]int{rowOf(i % 16), rowOf(i / 16 % 16), rowOf(i / 256)}
		for length := range 4 {
			x := read(n, trace[:length])
			for p := -1; p <= 4; p++ {
				k, ok := sim.Hit(n, p, trace[:length])
				if wantK, want := x.first(p); k != wantK || ok != want {
					t.Fatalf("Hit of %d tells %d, %t of %v; want %d, %t", p, k, ok, trace[:length], wantK, want)
				}
			}
		}
	}
}
