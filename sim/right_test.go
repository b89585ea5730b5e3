package sim_test

import (
	"math"
	"testing"

	"proofmark/api"
	"proofmark/sim"
)

func wantRight(t *testing.T, n api.Net, trace [][]int, want bool) {
	t.Helper()
	if got := readRight(n, trace); got != want {
		t.Errorf("the second reading of %v is %t", trace, got)
	}
	if got := sim.Right(n, trace); got != want {
		t.Errorf("Right of %v is %t", trace, got)
	}
}

// pins is a net of pins alone, of these widths, each behind a number that is wider or narrower.
func pins(widths ...int) api.Net {
	var b builder
	for i, w := range widths {
		b.lit(1+i%16, 0)
		b.in("i", w)
	}
	return b.Net
}

// P11.1, K1: traces of no rows, one, 63, 64, 65 and more.
func TestHowManyRows(t *testing.T) {
	for many := range 70 {
		wantRight(t, pins(), repeated(many), many <= 64)
		wantRight(t, pins(1), repeated(many, 1), many <= 64)
		wantRight(t, pins(4, 2), repeated(many, 15, 3), many <= 64)
	}
	wantRight(t, pins(1), make([][]int, 65), false)
	wantRight(t, pins(), make([][]int, 64), true)
	wantRight(t, pins(), make([][]int, 100000), false)
}

// P11.1, K1: rows of one number more than there are pins, of one fewer, and of none.
func TestHowManyNumbers(t *testing.T) {
	for many := range 65 {
		var widths []int
		for range many {
			widths = append(widths, 3)
		}
		n := pins(widths...)
		for _, numbers := range []int{0, 1, many - 1, many, many + 1, many + 2} {
			if numbers >= 0 {
				row := make([]int, numbers)
				wantRight(t, n, [][]int{row}, numbers == many)
				wantRight(t, n, [][]int{make([]int, many), row}, numbers == many)
			}
		}
		wantRight(t, n, [][]int{nil}, many == 0)
	}
	// Of the others each has a number of its own, and yet one is too few, or too many.
	for _, row := range [][]int{{1, 2}, {1}, {}, {1, 2, 3, 0}, {1, 2, 3, 4}} {
		wantRight(t, pins(2, 2, 2), [][]int{row}, false)
	}
}

// P11.1, K1: numbers of 0, 2^W - 1, 2^W, and below 0, of each width.
func TestNumbers(t *testing.T) {
	for w := 1; w <= 16; w++ {
		for _, number := range []int{0, 1, most(w) / 2, most(w)} {
			wantRight(t, pins(w), rows(number), true)
		}
		for _, number := range []int{most(w) + 1, most(w) + 2, 2*most(w) + 2, -1, -2, -most(w), -most(w) - 1, 1 << 32, 1 << 62, math.MinInt, math.MaxInt} {
			wantRight(t, pins(w), rows(number), false)
		}
	}
}

// P11.1, K1: one wrong number, at each place of each row: all rows are looked at, and each number by its own pin.
func TestOneWrongNumber(t *testing.T) {
	widths := []int{1, 16, 2, 4, 3}
	n := pins(widths...)
	good := func() [][]int { return repeated(7, most(1), most(16), most(2), most(4), most(3)) }
	wantRight(t, n, good(), true)
	for k := range good() {
		for i, w := range widths {
			for _, number := range []int{-1, most(w) + 1} {
				trace := good()
				trace[k][i] = number
				wantRight(t, n, trace, false)
			}
			trace := good()
			trace[k][i] = 0
			wantRight(t, n, trace, true)
		}
		trace := good()
		trace[k] = nil
		wantRight(t, n, trace, false)
		trace[k] = append(good()[k], 0)
		wantRight(t, n, trace, false)
	}
	wantRight(t, n, [][]int{{65535, 1, 2, 4, 3}}, false)
}

// P11.1, K1: all rows of small numbers, of pins of unlike widths.
func TestAllSmallRows(t *testing.T) {
	n := pins(1, 3, 2)
	for a := -2; a <= 9; a++ {
		for b := -2; b <= 9; b++ {
			for c := -2; c <= 9; c++ {
				wantRight(t, n, [][]int{{a, b, c}}, a >= 0 && a < 2 && b >= 0 && b < 8 && c >= 0 && c < 4)
			}
		}
	}
}

// P11.1, K1: a trace may be right though what it leads to is not looked at: no assumption counts.
func TestRightTellsNothingOfProperties(t *testing.T) {
	var b builder
	in := b.in("i", 1)
	b.prop(api.Assume, in)
	b.prop(api.Assert, in)
	wantRight(t, b.Net, rows(0, 1, 0), true)
}

// P1, and rule 4 of the language: of nets and traces that are not right nothing is said, but all calls end, and none panics.
func TestWrongOnesDoNoHarm(t *testing.T) {
	odd := []int{math.MinInt, -65, -1, 0, 1, 3, 17, 63, 64, 65, 4000, math.MaxInt}
	traces := [][][]int{nil, {nil}, {{}}, {{1}}, {{1, 2, 3}}, {{-1, 5}}, {{math.MinInt}, {math.MaxInt, 0}}, repeated(65, 2), repeated(200), make([][]int, 3)}
	call := func(n api.Net) {
		for _, trace := range traces {
			sim.Right(n, trace)
			sim.Run(n, trace)
			sim.States(n, trace)
			for p := -1; p <= len(n.Props); p++ {
				sim.Hit(n, p, trace)
			}
		}
	}
	call(adder())
	for _, x := range odd {
		n := adder()
		n.Nodes[0].W, n.Nodes[1].W = x, x
		call(n)
		n = adder()
		n.Ins[0].Node = x
		call(n)
		n = adder()
		n.Cells[0].Node, n.Cells[0].Next, n.Cells[0].Reset = x, x, x
		call(n)
		n = adder()
		n.Props[0].Node, n.Props[1].Kind = x, x
		call(n)
		call(api.Net{Ins: []api.Pin{{Node: x}}, Cells: []api.Cell{{Node: x}}, Props: []api.Prop{{Kind: api.Cover, Node: x}, {Kind: x}}})
	}
	// A property of no Kind is none that can be hit.
	n := adder()
	for _, kind := range []int{-1, 0, 7, 11} {
		n.Props[0].Kind, n.Props[1].Kind = kind, kind
		wantNoHit(t, "no Kind", n, 0, rows(6, 0, 13))
		wantNoHit(t, "no Kind", n, 1, rows(6, 0, 13))
	}
}
