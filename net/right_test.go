package net_test

import (
	"math"
	"testing"

	"proofmark/api"
	"proofmark/net"
)

// wantRight is of a net as it stands; the second reading must say so too.
func wantRight(t *testing.T, n api.Net, want bool) {
	t.Helper()
	if readRight(n) != want {
		t.Errorf("the second reading of %+v is %v", n, !want)
	}
	if net.Right(n) != want {
		t.Errorf("Right(%+v) is %v", n, !want)
	}
}

// stock are nodes to hang on: at 2*w-2 and 2*w-1 two numbers of each width w.
func stock() []api.Node {
	var l []api.Node
	for w := 1; w <= 16; w++ {
		l = append(l, api.Node{Op: api.Lit, W: w, N: most(w)}, api.Node{Op: api.Lit, W: w})
	}
	return l
}

// of is where a number of so many bits stands in the stock.
func of(w int) int { return 2*w - 1 }

// wantNode is of a node behind the stock.
func wantNode(t *testing.T, x api.Node, want bool) {
	t.Helper()
	n := api.Net{Nodes: append(stock(), x)}
	switch place := len(n.Nodes) - 1; x.Op {
	case api.In:
		n.Ins = []api.Pin{{Name: "x", Node: place}}
	case api.State:
		n.Cells = []api.Cell{{Name: "x", Node: place, Next: place}}
	}
	if readRight(n) != want {
		t.Errorf("the second reading of %+v is %v", x, !want)
	}
	if net.Right(n) != want {
		t.Errorf("Right of %+v is %v", x, !want)
	}
}

// sound is a node of each op, W w, that may stand behind the stock; v is how wide what is not so wide as it is.
func sound(op, w, v int) api.Node {
	x := api.Node{Op: op, W: w}
	place := []int{of(w), of(w), 0}
	switch op {
	case api.Lit:
		x.N = 1
	case api.RedOr, api.RedAnd, api.Eq, api.Ne, api.Lt, api.Le:
		x.W, x.Lo = 1, v
		place = []int{of(v), of(v), 0}
	case api.Mux:
		place = []int{of(1), of(w), of(w)}
	case api.Cat:
		x.W = w + v
		place = []int{of(w), of(v), 0}
	case api.Slice:
		x.W, x.N, x.Lo = 2, 3, 2
		place = []int{of(v + 2), 0, 0}
	}
	for i, p := range []*int{&x.A, &x.B, &x.C} {
		if i < has[op] {
			*p = place[i]
		}
	}
	return x
}

// P9.1, I1: a sound node of each op, of some widths.
func TestSound(t *testing.T) {
	for _, op := range allOps {
		for w := 1; w <= 8; w++ {
			for v := 2; v <= 8; v++ {
				wantNode(t, sound(op, w, v), true)
			}
		}
	}
}

// P9.1, I1: no nodes; 4000 nodes, and 4001.
func TestHowManyNodes(t *testing.T) {
	wantRight(t, api.Net{}, true)
	n := api.Net{Nodes: []api.Node{{Op: api.Lit, W: 1}}}
	for len(n.Nodes) < 4000 {
		n.Nodes = append(n.Nodes, api.Node{Op: api.Inv, W: 1, A: len(n.Nodes) - 1})
	}
	if !net.Right(n) {
		t.Error("4000 nodes are not right")
	}
	l := net.Eval(n, nil, nil)
	if len(l) != 4000 || l[3998] != 0 || l[3999] != 1 {
		t.Errorf("Eval of 4000 nodes: %d, %v", len(l), l[3998:])
	}
	n.Names = []api.Pin{{Node: 3999}}
	if !net.Right(n) {
		t.Error("a name of the last node is not right")
	}
	n.Nodes = append(n.Nodes, api.Node{Op: api.Inv, W: 1, A: 3999})
	if net.Right(n) {
		t.Error("4001 nodes are right")
	}
}

// P9.1, I1: widths of 0, 1, 16 and 17, and others that there are not, of each op whose W is not told by its operands.
func TestWidths(t *testing.T) {
	for _, op := range []int{api.Lit, api.In, api.State} {
		for w := 1; w <= 16; w++ {
			wantNode(t, api.Node{Op: op, W: w}, true)
		}
		for _, w := range []int{0, 17, -1, 18, 64, -16, math.MinInt, math.MaxInt} {
			wantNode(t, api.Node{Op: op, W: w}, false)
		}
	}
	for _, c := range []struct {
		a, b int
		want bool
	}{{15, 1, true}, {1, 15, true}, {8, 8, true}, {1, 1, true}, {16, 1, false}, {1, 16, false}, {9, 8, false}} {
		wantNode(t, api.Node{Op: api.Cat, W: c.a + c.b, A: of(c.a), B: of(c.b)}, c.want)
	}
}

// P9.1, I1: an Op that there is not, and those that expressions alone have.
func TestOps(t *testing.T) {
	for op := -3; op < 300; op++ {
		want := op >= 1 && op <= 22 && op != api.Ref && op != api.Read && op != api.Past
		wantNode(t, sound(op, 1, 2), want)
	}
	for _, op := range []int{math.MinInt, math.MaxInt} {
		wantNode(t, api.Node{Op: op, W: 1}, false)
	}
}

// P9.1, I1: an operand that is the node itself, one that stands behind it, one below 0, and one that there is not.
func TestOperandsStandAhead(t *testing.T) {
	for _, op := range allOps {
		for i := range has[op] {
			for _, place := range []int{-1, math.MinInt, 32, 33, 34, 4000, math.MaxInt} {
				x := sound(op, 4, 4)
				*[]*int{&x.A, &x.B, &x.C}[i] = place
				wantNode(t, x, false)
				// One that stands behind is wrong though it be as wide as it must.
				n := api.Net{Nodes: append(stock(), x, sound(op, 4, 4), x)}
				wantRight(t, n, false)
			}
		}
	}
	n := api.Net{Nodes: []api.Node{{Op: api.Inv, W: 1}}}
	wantRight(t, n, false)
	n = api.Net{Nodes: []api.Node{{Op: api.Inv, W: 1, A: 1}, {Op: api.Lit, W: 1}}}
	wantRight(t, n, false)
	n = api.Net{Nodes: []api.Node{{Op: api.Lit, W: 1}, {Op: api.Inv, W: 1, A: 1}}}
	wantRight(t, n, false)
	n.Nodes[1].A = 0
	wantRight(t, n, true)
}

// P9.1, I1: A, B and C that are not 0 of an Op that has none there.
func TestNoSuchOperand(t *testing.T) {
	for _, op := range allOps {
		for i := has[op]; i < 3; i++ {
			for _, place := range []int{1, -1, 31, 32, math.MinInt, math.MaxInt} {
				x := sound(op, 4, 4)
				*[]*int{&x.A, &x.B, &x.C}[i] = place
				wantNode(t, x, false)
			}
		}
	}
}

// P9.1, I1: for each Op each width that is one too much, and one too few, of each operand, of W, and of Lo.
func TestWidthsOneOff(t *testing.T) {
	for _, op := range allOps {
		for i := range has[op] {
			for by := -1; by <= 1; by += 2 {
				x := sound(op, 4, 4)
				place := []*int{&x.A, &x.B, &x.C}[i]
				*place += 2 * by
				if op == api.Mux && i == 0 && by < 0 {
					*place = of(3)
				}
				// A Slice's operand may be any that is above N.
				wantNode(t, x, op == api.Slice)
			}
		}
		if op == api.Lit || op == api.In || op == api.State {
			continue
		}
		for by := -1; by <= 1; by += 2 {
			x := sound(op, 4, 4)
			x.W += by
			wantNode(t, x, false)
			if x = sound(op, 4, 4); x.Lo > 0 {
				x.Lo += by
				wantNode(t, x, false)
			}
		}
	}
}

// P9.1, I1: what tells of operands has one bit, however wide they are, and its Lo is how wide.
func TestTells(t *testing.T) {
	for _, op := range []int{api.RedOr, api.RedAnd, api.Eq, api.Ne, api.Lt, api.Le} {
		for w := 1; w <= 16; w++ {
			for lo := -1; lo <= 18; lo++ {
				x := api.Node{Op: op, W: 1, A: of(w), Lo: lo}
				if has[op] == 2 {
					x.B = of(w)
				}
				wantNode(t, x, lo == w)
				x.W = w
				wantNode(t, x, lo == w && w == 1)
			}
		}
	}
}

// P9.1, I1: Lit's N of 0, of the greatest, one above it, and one below 0.
func TestLitNumbers(t *testing.T) {
	for w := 1; w <= 16; w++ {
		for _, n := range []int{0, 1, most(w) / 2, most(w)} {
			wantNode(t, api.Node{Op: api.Lit, W: w, N: n}, true)
		}
		for _, n := range []int{-1, most(w) + 1, most(w) + 2, math.MinInt, math.MaxInt} {
			wantNode(t, api.Node{Op: api.Lit, W: w, N: n}, false)
		}
	}
}

// P9.1, I1: N and Lo that are not 0 of an Op that has none.
func TestNoSuchNumber(t *testing.T) {
	for _, op := range allOps {
		for _, n := range []int{1, 2, -1, math.MinInt, math.MaxInt} {
			if x := sound(op, 4, 4); op != api.Lit && op != api.Slice {
				x.N = n
				wantNode(t, x, false)
			}
			if x := sound(op, 4, 4); x.Lo == 0 {
				x.Lo = n
				wantNode(t, x, false)
			}
		}
	}
}

// P9.1, I1: a Slice of one bit, of the highest, of one above it, with Lo above N; all N and Lo of all operands.
func TestSlices(t *testing.T) {
	for w := 1; w <= 16; w++ {
		for n := -2; n <= 18; n++ {
			for lo := -2; lo <= 18; lo++ {
				x := api.Node{Op: api.Slice, W: n - lo + 1, A: of(w), N: n, Lo: lo}
				wantNode(t, x, lo >= 0 && lo <= n && n < w)
				x.W++
				wantNode(t, x, false)
				x.W -= 2
				wantNode(t, x, false)
			}
		}
	}
	for _, n := range []int{math.MinInt, math.MaxInt} {
		wantNode(t, api.Node{Op: api.Slice, W: 1, A: of(4), N: n, Lo: n}, false)
		wantNode(t, api.Node{Op: api.Slice, W: 1, A: of(4), N: 3, Lo: n}, false)
		wantNode(t, api.Node{Op: api.Slice, W: 1, A: of(4), N: n}, false)
	}
	// What these tell of a width would wrap round.
	wantNode(t, api.Node{Op: api.Slice, W: 2, A: of(4), N: math.MinInt, Lo: math.MaxInt}, false)
	wantNode(t, api.Node{Op: api.Slice, W: 1, A: of(4), N: math.MinInt, Lo: math.MinInt}, false)
}

// mixed has three In nodes, three State nodes, and others.
func mixed() api.Net {
	return api.Net{
		Nodes: []api.Node{{Op: api.State, W: 3}, {Op: api.In, W: 3}, {Op: api.Lit, W: 3}, {Op: api.In, W: 1}, {Op: api.State, W: 3}, {Op: api.State, W: 3}, {Op: api.In, W: 2}, {Op: api.Lit, W: 1}},
		Ins:   []api.Pin{{Name: "a", Node: 1}, {Name: "b", Node: 3}, {Name: "c", Node: 6}},
		Cells: []api.Cell{{Name: "x", Node: 0}, {Name: "y", Node: 4}, {Name: "z", Node: 5}},
		Props: []api.Prop{{Kind: api.Assert, Name: "p", Node: 3}, {Kind: api.Assume, Name: "q", Node: 7}, {Kind: api.Cover, Name: "r", Node: 7}},
		Names: []api.Pin{{Name: "a", Node: 0}, {Name: "b", Node: 7}},
	}
}

// P9.1, I1: pins and cells that do not rise, that stand twice, that are missing, that are too many, that are of another Op.
func TestPinsAndCells(t *testing.T) {
	wantRight(t, mixed(), true)
	for _, l := range [][]int{{}, {0}, {0, 1}, {1, 2}, {0, 2}, {0, 2, 1}, {2, 1, 0}, {1, 0, 2}, {0, 0, 1, 2}, {0, 1, 1, 2}, {0, 1, 2, 2}, {0, 0, 2}, {0, 1, 2, 0}} {
		pins, cells := mixed(), mixed()
		pins.Ins, cells.Cells = nil, nil
		for _, i := range l {
			pins.Ins = append(pins.Ins, mixed().Ins[i])
			cells.Cells = append(cells.Cells, mixed().Cells[i])
		}
		wantRight(t, pins, false)
		wantRight(t, cells, false)
	}
	for i := range 3 {
		for _, place := range []int{-1, 0, 1, 2, 3, 4, 5, 6, 7, 8, math.MinInt, math.MaxInt} {
			pins, cells := mixed(), mixed()
			pins.Ins[i].Node = place
			wantRight(t, pins, place == mixed().Ins[i].Node)
			cells.Cells[i].Node = place
			wantRight(t, cells, place == mixed().Cells[i].Node)
		}
	}
	pins, cells := mixed(), mixed()
	pins.Ins = append(pins.Ins, api.Pin{Name: "d", Node: 7})
	cells.Cells = append(cells.Cells, api.Cell{Name: "w", Node: 7})
	wantRight(t, pins, false)
	wantRight(t, cells, false)
}

// P9.1, I1: 64 pins, and 65.
func TestHowManyPins(t *testing.T) {
	n := api.Net{}
	for i := range 66 {
		wantRight(t, n, i <= 64)
		n.Nodes = append(n.Nodes, api.Node{Op: api.In, W: 16})
		n.Ins = append(n.Ins, api.Pin{Name: "i", Node: i})
	}
}

// P9.1, I1: 256 bits of cells, and 257, of cells of all widths; 256 cells, and 257.
func TestHowManyBits(t *testing.T) {
	for w := 1; w <= 16; w++ {
		n := api.Net{}
		for bits := 0; bits+w <= 256; bits += w {
			n = withCell(n, w)
		}
		wantRight(t, n, true)
		left := 256 - len(n.Cells)*w
		if left > 0 {
			wantRight(t, withCell(copied(n), left), true)
		}
		if left < 16 {
			wantRight(t, withCell(copied(n), left+1), false)
		}
	}
}

func withCell(n api.Net, w int) api.Net {
	place := len(n.Nodes)
	n.Nodes = append(n.Nodes, api.Node{Op: api.State, W: w})
	n.Cells = append(n.Cells, api.Cell{Name: "c", Node: place, Next: place, Reset: most(w)})
	return n
}

// P9.1, I1: a Next of another width, and one that there is not.
func TestNexts(t *testing.T) {
	for i := range 3 {
		for _, next := range []int{-1, 0, 1, 2, 3, 4, 5, 6, 7, 8, 9, math.MinInt, math.MaxInt} {
			n := mixed()
			n.Cells[i].Next = next
			wantRight(t, n, next >= 0 && next < 8 && n.Nodes[next].W == 3)
		}
	}
}

// P9.1, I1: a Reset of the greatest number, one above it, and one below 0.
func TestResets(t *testing.T) {
	for w := 1; w <= 16; w++ {
		for _, reset := range []int{0, 1, most(w), most(w) + 1, -1, math.MinInt, math.MaxInt} {
			n := withCell(withCell(api.Net{}, 16), w)
			n.Cells[1].Reset = reset
			wantRight(t, n, reset >= 0 && reset <= most(w))
		}
	}
}

// P9.1, I1: 16 Props, and 17.
func TestHowManyProps(t *testing.T) {
	n := mixed()
	n.Props = nil
	for i := range 19 {
		wantRight(t, n, i <= 16)
		n.Props = append(n.Props, api.Prop{Kind: 8 + i%3, Node: 7})
	}
}

// P9.1, I1: a Prop of another Kind, of a node of two bits, of a node that there is not.
func TestProps(t *testing.T) {
	for i := range 3 {
		for _, kind := range []int{-1, 0, 1, 7, 8, 9, 10, 11, 12, math.MinInt, math.MaxInt} {
			n := mixed()
			n.Props[i].Kind = kind
			wantRight(t, n, kind >= 8 && kind <= 10)
		}
		for _, place := range []int{-1, 0, 1, 2, 3, 4, 5, 6, 7, 8, 9, math.MinInt, math.MaxInt} {
			n := mixed()
			n.Props[i].Node = place
			wantRight(t, n, place == 3 || place == 7)
		}
	}
}

// P9.1, I1: a Name of a node that there is not; as many Names as may be, whatever they are.
func TestNames(t *testing.T) {
	for i := range 2 {
		for _, place := range []int{-1, 0, 1, 6, 7, 8, 9, math.MinInt, math.MaxInt} {
			n := mixed()
			n.Names[i].Node = place
			wantRight(t, n, place >= 0 && place <= 7)
		}
	}
	n := mixed()
	for i := range 10000 {
		n.Names = append(n.Names, api.Pin{Name: []string{"", "a", "a.b", "\x00\xff", "no name, as it were"}[i%5], Node: i % 8})
	}
	n.Ins[0].Name, n.Ins[1].Name, n.Cells[0].Name, n.Props[0].Name = "", "", "", "\n"
	if !net.Right(n) {
		t.Error("names are not right")
	}
	wantRight(t, api.Net{Names: []api.Pin{{}}}, false)
	wantRight(t, api.Net{Props: []api.Prop{{Kind: 8}}}, false)
	wantRight(t, api.Net{Ins: []api.Pin{{}}}, false)
	wantRight(t, api.Net{Cells: []api.Cell{{}}}, false)
}
