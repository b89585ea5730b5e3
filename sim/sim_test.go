package sim_test

import (
	"slices"
	"testing"

	"proofmark/api"
	"proofmark/net"
	"proofmark/sim"
)

// alike holds rows against each other; an empty row is like none.
func alike[T comparable](a, b [][]T) bool { return slices.EqualFunc(a, b, slices.Equal[[]T]) }

func wantRows[T comparable](t *testing.T, what string, got [][]T, want ...[]T) {
	t.Helper()
	if !alike(got, want) {
		t.Errorf("%s is %v; want %v", what, got, want)
	}
}

func wantHit(t *testing.T, what string, n api.Net, p int, trace [][]int, want int) {
	t.Helper()
	if k, ok := sim.Hit(n, p, trace); k != want || !ok {
		t.Errorf("%s: Hit of %d tells %d, %t; want %d", what, p, k, ok, want)
	}
}

func wantNoHit(t *testing.T, what string, n api.Net, p int, trace [][]int) {
	t.Helper()
	if k, ok := sim.Hit(n, p, trace); k != 0 || ok {
		t.Errorf("%s: Hit of %d tells %d, %t; want none", what, p, k, ok)
	}
}

// adder has a cell of 4 bits, to which its input of 4 bits is added each time; the sum is covered at 9, and must not be 6.
func adder() api.Net {
	var b builder
	in := b.in("by", 4)
	sum := b.cell("sum", 4, 3)
	b.becomes(sum, b.of(api.Add, sum, in))
	b.prop(api.Cover, b.tells(api.Eq, sum, b.lit(4, 9)))
	b.prop(api.Assert, b.tells(api.Ne, sum, b.lit(4, 6)))
	return b.Net
}

// rows are those of one pin.
func rows(l ...int) [][]int {
	var trace [][]int
	for _, x := range l {
		trace = append(trace, []int{x})
	}
	return trace
}

// repeated is a trace of so many rows that are alike.
func repeated(many int, row ...int) [][]int {
	var trace [][]int
	for range many {
		trace = append(trace, slices.Clone(row))
	}
	return trace
}

// P11.1: the chapter's example: no rows are no cycles, and one state.
func TestNoRows(t *testing.T) {
	n := adder()
	for _, trace := range [][][]int{nil, {}} {
		if !sim.Right(n, trace) {
			t.Error("no rows are not right")
		}
		wantRows(t, "Run", sim.Run(n, trace))
		wantRows(t, "States", sim.States(n, trace), []int{3})
		for p := range 2 {
			wantNoHit(t, "no rows", n, p, trace)
		}
	}
}

// P11.1, K2: one row.
func TestOneRow(t *testing.T) {
	n := adder()
	wantRows(t, "Run", sim.Run(n, rows(6)), []bool{false, true})
	wantRows(t, "States", sim.States(n, rows(6)), []int{3}, []int{9})
	// What comes behind the last row is a state, and no cycle any more.
	wantNoHit(t, "one row", n, 0, rows(6))
	wantNoHit(t, "one row", n, 1, rows(3))
	n.Cells[0].Reset = 6
	wantRows(t, "Run", sim.Run(n, rows(0)), []bool{false, false})
	wantHit(t, "one row", n, 1, rows(0), 0)
}

// P11.1, K2, K3: some rows, by hand: states are sums, that wrap round; the state behind the last row is told too.
func TestSums(t *testing.T) {
	n, trace := adder(), rows(6, 0, 15, 14, 9, 0, 3)
	if !net.Right(n) || !sim.Right(n, trace) {
		t.Fatal("not right")
	}
	wantRows(t, "States", sim.States(n, trace), []int{3}, []int{9}, []int{9}, []int{8}, []int{6}, []int{15}, []int{15}, []int{2})
	wantRows(t, "Run", sim.Run(n, trace), []bool{false, true}, []bool{true, true}, []bool{true, true}, []bool{false, true}, []bool{false, false}, []bool{false, true}, []bool{false, true})
	wantHit(t, "sums", n, 0, trace, 1)
	wantHit(t, "sums", n, 1, trace, 4)
}

// P11.1, K1, K2: 64 rows, and all that is told of them.
func TestSixtyFourRows(t *testing.T) {
	n, trace := adder(), repeated(64, 1)
	states, run := sim.States(n, trace), sim.Run(n, trace)
	if !sim.Right(n, trace) || len(states) != 65 || len(run) != 64 {
		t.Fatal(sim.Right(n, trace), len(states), len(run))
	}
	for k, state := range states {
		if sum := (3 + k) % 16; len(state) != 1 || state[0] != sum {
			t.Errorf("state %d is %v", k, state)
		} else if k < 64 && !slices.Equal(run[k], []bool{sum == 9, sum != 6}) {
			t.Errorf("cycle %d is %v", k, run[k])
		}
	}
	wantHit(t, "64 rows", n, 0, trace, 6)
	wantHit(t, "64 rows", n, 1, trace, 3)
}

// P11.1, K2: cells that hang on each other, and pins of unlike widths: each has its own place in its row.
func TestOrderOfRows(t *testing.T) {
	var b builder
	x := b.cell("x", 2, 1)
	p := b.in("p", 3)
	y := b.cell("y", 2, 2)
	q := b.in("q", 2)
	z := b.cell("z", 3, 7)
	b.becomes(x, y)
	b.becomes(y, q)
	b.becomes(z, p)
	b.prop(api.Cover, b.tells(api.Lt, x, y))
	b.prop(api.Assume, b.add(api.Node{Op: api.RedOr, W: 1, A: z, Lo: 3}))
	b.prop(api.Assert, b.tells(api.Eq, y, q))
	b.prop(api.Cover, b.tells(api.Lt, x, y))
	trace := [][]int{{5, 1}, {0, 1}, {4, 0}}
	if !net.Right(b.Net) || !sim.Right(b.Net, trace) {
		t.Fatal("not right")
	}
	wantRows(t, "States", sim.States(b.Net, trace), []int{1, 2, 7}, []int{2, 1, 5}, []int{1, 1, 0}, []int{1, 0, 4})
	wantRows(t, "Run", sim.Run(b.Net, trace), []bool{true, true, false, true}, []bool{false, true, true, false}, []bool{false, false, false, false})
}

// P11.1, K1 to K3: a net without inputs, whose rows are empty.
func TestNoInputs(t *testing.T) {
	var b builder
	c := b.cell("c", 2, 0)
	b.becomes(c, b.of(api.Add, c, b.lit(2, 1)))
	b.prop(api.Cover, b.add(api.Node{Op: api.RedAnd, W: 1, A: c, Lo: 2}))
	trace := [][]int{{}, nil, {}, nil}
	if !sim.Right(b.Net, trace) || sim.Right(b.Net, [][]int{{}, {0}}) {
		t.Error("Right of rows without numbers")
	}
	wantRows(t, "States", sim.States(b.Net, trace), []int{0}, []int{1}, []int{2}, []int{3}, []int{0})
	wantRows(t, "Run", sim.Run(b.Net, trace), []bool{false}, []bool{false}, []bool{false}, []bool{true})
	wantHit(t, "no inputs", b.Net, 0, trace, 3)
	wantNoHit(t, "no inputs", b.Net, 0, trace[:3])
}

// P11.1, K1 to K3: a net without cells, whose states are empty.
func TestNoCells(t *testing.T) {
	var b builder
	in := b.in("i", 2)
	b.prop(api.Assert, b.tells(api.Ne, in, b.lit(2, 2)))
	trace := rows(0, 1, 2, 3)
	wantRows(t, "States", sim.States(b.Net, trace), nil, nil, nil, nil, nil)
	wantRows(t, "Run", sim.Run(b.Net, trace), []bool{true}, []bool{true}, []bool{false}, []bool{true})
	wantHit(t, "no cells", b.Net, 0, trace, 2)
}

// P11.1, K1 to K3: a net without properties, each of whose cycles tells nothing; and one that has nothing.
func TestNoProperties(t *testing.T) {
	n := adder()
	n.Props = nil
	wantRows(t, "Run", sim.Run(n, rows(1, 2)), nil, nil)
	wantRows(t, "States", sim.States(n, rows(1, 2)), []int{3}, []int{4}, []int{6})
	for p := -1; p < 2; p++ {
		wantNoHit(t, "no properties", n, p, rows(1, 2))
	}
	wantRows(t, "Run", sim.Run(api.Net{}, [][]int{nil, nil}), nil, nil)
	wantRows(t, "States", sim.States(api.Net{}, [][]int{nil, nil}), nil, nil, nil)
	wantRows(t, "States", sim.States(api.Net{}, nil), nil)
	if !sim.Right(api.Net{}, nil) || !sim.Right(api.Net{}, repeated(64)) || sim.Right(api.Net{}, repeated(65)) {
		t.Error("Right of a net that has nothing")
	}
}

// P11.1, K2, K3: as great a net as there may be, for 64 cycles: 256 cells of a bit, each of which is next what the one ahead of it is.
func TestGreatNet(t *testing.T) {
	var b builder
	last := b.in("i", 1)
	for i := range 256 {
		c := b.cell("c", 1, i%2)
		b.becomes(c, last)
		last = c
	}
	for len(b.Nodes) < 4000 {
		last = b.inv(last)
	}
	for range 16 {
		b.prop(api.Cover, last)
	}
	if !net.Right(b.Net) {
		t.Fatal("not right")
	}
	trace := repeated(64, 1)
	states, run := sim.States(b.Net, trace), sim.Run(b.Net, trace)
	for k, state := range states {
		for i, is := range state {
			if want := i < k || (i-k)%2 != 0; want != (is == 1) {
				t.Fatalf("cell %d is %d in state %d", i, is, k)
			}
		}
	}
	// 3743 turns make the opposite of the last cell, which has been what cell 255-k was at first.
	for k, held := range run {
		if want := (255-k)%2 == 0; len(held) != 16 || held[0] != want || held[15] != want {
			t.Fatalf("cycle %d is %v", k, held)
		}
	}
	wantHit(t, "a great net", b.Net, 15, trace, 1)
}
