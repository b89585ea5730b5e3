package net_test

import (
	"slices"
	"testing"

	"proofmark/api"
	"proofmark/net"
)

// counter is a cell of 4 bits that is one more each time, while its input is 1.
func counter() api.Net {
	return api.Net{
		Nodes: []api.Node{{Op: api.In, W: 1}, {Op: api.State, W: 4}, {Op: api.Lit, W: 4, N: 1}, {Op: api.Add, W: 4, A: 1, B: 2}, {Op: api.Mux, W: 4, A: 0, B: 3, C: 1}, {Op: api.RedAnd, W: 1, A: 1, Lo: 4}},
		Ins:   []api.Pin{{Name: "go", Node: 0}},
		Cells: []api.Cell{{Name: "n", Node: 1, Next: 4, Reset: 7}},
		Props: []api.Prop{{Kind: api.Cover, Name: "full", Node: 5}},
		Names: []api.Pin{{Name: "n", Node: 1}, {Name: "next", Node: 4}},
	}
}

func wantRow(t *testing.T, what string, got []int, want ...int) {
	t.Helper()
	if !slices.Equal(got, want) {
		t.Errorf("%s is %v; want %v", what, got, want)
	}
}

// P9.1: the chapter's example: a cell of 4 bits that is one more each time, from 15 on, is 0.
func TestExample(t *testing.T) {
	n := counter()
	wantRow(t, "After 15", net.After(n, []int{15}, []int{1}), 0)
	wantRow(t, "After 15, still", net.After(n, []int{15}, []int{0}), 15)
	wantRow(t, "First", net.First(n), 7)
	wantRow(t, "Eval", net.Eval(n, []int{15}, []int{1}), 1, 15, 1, 0, 0, 1)
	wantRow(t, "Eval", net.Eval(n, []int{14}, []int{0}), 0, 14, 1, 15, 14, 0)
	if !net.Right(n) {
		t.Error("the counter is not right")
	}
}

// P9.1, I2: a net that has nothing.
func TestNothing(t *testing.T) {
	wantRow(t, "First", net.First(api.Net{}))
	wantRow(t, "Eval", net.Eval(api.Net{}, nil, nil))
	wantRow(t, "After", net.After(api.Net{}, []int{}, []int{}))
}

// P9.1, I2: nodes, and nothing else: neither pins nor cells, props nor names.
func TestNodesAlone(t *testing.T) {
	n := api.Net{Nodes: []api.Node{{Op: api.Lit, W: 3, N: 5}, {Op: api.Inv, W: 3, A: 0}, {Op: api.Lt, W: 1, A: 1, B: 0, Lo: 3}}}
	wantRow(t, "Eval", net.Eval(n, nil, nil), 5, 2, 1)
	wantRow(t, "First", net.First(n))
	wantRow(t, "After", net.After(n, nil, nil))
	if !net.Right(n) {
		t.Error("nodes alone are not right")
	}
}

// P9.1, I2: what each op makes, by hand.
func TestEachOp(t *testing.T) {
	// Nodes 0 and 1 are 12 and 10 of 4 bits, 2 is 1, 3 is 0 of one bit.
	for _, c := range []struct {
		n    api.Node
		want int
	}{
		{api.Node{Op: api.Lit, W: 16, N: 65535}, 65535}, {api.Node{Op: api.Lit, W: 1}, 0}, {api.Node{Op: api.Inv, W: 4, A: 1}, 5},
		{api.Node{Op: api.RedOr, W: 1, A: 0, Lo: 4}, 1}, {api.Node{Op: api.RedOr, W: 1, A: 3, Lo: 1}, 0},
		{api.Node{Op: api.RedAnd, W: 1, A: 0, Lo: 4}, 0}, {api.Node{Op: api.RedAnd, W: 1, A: 2, Lo: 1}, 1},
		{api.Node{Op: api.And, W: 4, A: 0, B: 1}, 8}, {api.Node{Op: api.Or, W: 4, A: 0, B: 1}, 14}, {api.Node{Op: api.Xor, W: 4, A: 0, B: 1}, 6},
		{api.Node{Op: api.Add, W: 4, A: 0, B: 1}, 6}, {api.Node{Op: api.Sub, W: 4, A: 0, B: 1}, 2}, {api.Node{Op: api.Sub, W: 4, A: 1, B: 0}, 14},
		{api.Node{Op: api.Mul, W: 4, A: 0, B: 1}, 8}, {api.Node{Op: api.Eq, W: 1, A: 0, B: 1, Lo: 4}, 0}, {api.Node{Op: api.Eq, W: 1, A: 1, B: 1, Lo: 4}, 1},
		{api.Node{Op: api.Ne, W: 1, A: 0, B: 1, Lo: 4}, 1}, {api.Node{Op: api.Lt, W: 1, A: 0, B: 1, Lo: 4}, 0}, {api.Node{Op: api.Lt, W: 1, A: 1, B: 0, Lo: 4}, 1},
		{api.Node{Op: api.Le, W: 1, A: 0, B: 0, Lo: 4}, 1}, {api.Node{Op: api.Le, W: 1, A: 0, B: 1, Lo: 4}, 0},
		{api.Node{Op: api.Mux, W: 4, A: 2, B: 0, C: 1}, 12}, {api.Node{Op: api.Mux, W: 4, A: 3, B: 0, C: 1}, 10},
		{api.Node{Op: api.Slice, W: 2, A: 0, N: 3, Lo: 2}, 3}, {api.Node{Op: api.Slice, W: 2, A: 1, N: 2, Lo: 1}, 1},
	} {
		n := api.Net{Nodes: []api.Node{{Op: api.Lit, W: 4, N: 12}, {Op: api.Lit, W: 4, N: 10}, {Op: api.Lit, W: 1, N: 1}, {Op: api.Lit, W: 1}, c.n}}
		if !net.Right(n) {
			t.Errorf("%+v is not right", c.n)
		}
		wantRow(t, "Eval", net.Eval(n, nil, nil), 12, 10, 1, 0, c.want)
	}
}

// P9.1, I2: a Cat of unlike widths goes by how wide b is, not a.
func TestUnlikeCat(t *testing.T) {
	n := api.Net{
		Nodes: []api.Node{{Op: api.In, W: 1}, {Op: api.In, W: 5}, {Op: api.Cat, W: 6, A: 0, B: 1}, {Op: api.Cat, W: 6, A: 1, B: 0}, {Op: api.Cat, W: 12, A: 3, B: 2}, {Op: api.Cat, W: 2, A: 0, B: 0}},
		Ins:   []api.Pin{{Node: 0}, {Node: 1}},
	}
	if !net.Right(n) {
		t.Error("not right")
	}
	wantRow(t, "Eval", net.Eval(n, nil, []int{1, 2}), 1, 2, 34, 5, 5*64+34, 3)
	wantRow(t, "Eval", net.Eval(n, nil, []int{0, 31}), 0, 31, 31, 62, 62*64+31, 0)
	wantRow(t, "Eval", net.Eval(n, nil, []int{1, 0}), 1, 0, 32, 1, 64+32, 3)
	n = api.Net{Nodes: []api.Node{{Op: api.Lit, W: 15, N: 1}, {Op: api.Lit, W: 1, N: 1}, {Op: api.Cat, W: 16, A: 0, B: 1}, {Op: api.Cat, W: 16, A: 1, B: 0}}}
	wantRow(t, "Eval", net.Eval(n, nil, nil), 1, 1, 3, 32769)
}

// P9.1, I2: pins and cells that stand among others, in turn: each In node has its own pin's input, each State node its own cell's state.
func TestPinsAndCellsMixed(t *testing.T) {
	n := api.Net{
		Nodes: []api.Node{{Op: api.State, W: 3}, {Op: api.In, W: 4}, {Op: api.Lit, W: 2, N: 3}, {Op: api.In, W: 5}, {Op: api.State, W: 3}, {Op: api.State, W: 2}, {Op: api.In, W: 2}, {Op: api.Inv, W: 3, A: 4}},
		Ins:   []api.Pin{{Name: "a", Node: 1}, {Name: "b", Node: 3}, {Name: "c", Node: 6}},
		Cells: []api.Cell{{Name: "x", Node: 0, Next: 7, Reset: 6}, {Name: "y", Node: 4, Next: 0, Reset: 1}, {Name: "z", Node: 5, Next: 6, Reset: 3}},
	}
	if !net.Right(n) {
		t.Error("not right")
	}
	wantRow(t, "First", net.First(n), 6, 1, 3)
	wantRow(t, "Eval", net.Eval(n, []int{4, 2, 1}, []int{9, 17, 0}), 4, 9, 3, 17, 2, 1, 0, 5)
	wantRow(t, "After", net.After(n, []int{4, 2, 1}, []int{9, 17, 0}), 5, 4, 0)
	wantRow(t, "After", net.After(n, []int{0, 7, 3}, []int{0, 0, 2}), 0, 0, 2)
}

// P9.1, I2: a cell whose Next is itself, one whose Next stands ahead of it, and two that change places.
func TestNextOfCells(t *testing.T) {
	n := api.Net{
		Nodes: []api.Node{{Op: api.Lit, W: 4, N: 9}, {Op: api.State, W: 4}, {Op: api.State, W: 4}, {Op: api.State, W: 4}, {Op: api.State, W: 4}},
		Cells: []api.Cell{{Node: 1, Next: 1, Reset: 15}, {Node: 2, Next: 0}, {Node: 3, Next: 4, Reset: 1}, {Node: 4, Next: 3, Reset: 2}},
	}
	if !net.Right(n) {
		t.Error("not right")
	}
	wantRow(t, "First", net.First(n), 15, 0, 1, 2)
	wantRow(t, "After", net.After(n, net.First(n), nil), 15, 9, 2, 1)
}
