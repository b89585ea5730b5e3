package reach_test

import (
	"math"
	"slices"
	"testing"

	"proofmark/api"
	"proofmark/net"
	"proofmark/reach"
)

// sized is a net of cells and pins of these widths, a property of each kind, and nodes between that are wide.
func sized(cells, pins []int) api.Net {
	var b builder
	b.lit(16, 65535)
	for i, w := range cells {
		b.cell("c", w, most(w))
		b.lit(1+i%16, 0)
	}
	for _, w := range pins {
		b.in("i", w)
		b.lit(16, 0)
	}
	one := b.lit(1, 1)
	b.prop(api.Assume, one)
	b.prop(api.Assert, one)
	b.prop(api.Cover, one)
	return b.Net
}

func wantSmall(t *testing.T, cells, pins []int, want bool) {
	t.Helper()
	n := sized(cells, pins)
	if got := reach.Small(n); got != want || !net.Right(n) {
		t.Errorf("Small of cells %v and pins %v is %t, right %t", cells, pins, got, net.Right(n))
	}
	many, err := reach.Many(n)
	if want && (many != 1 || err != api.OK) || !want && (many != 0 || err != api.ErrBig) {
		t.Errorf("Many of cells %v and pins %v is %d, %v", cells, pins, many, err)
	}
	for _, p := range []int{math.MinInt, -1, 0, 3, 4, math.MaxInt} {
		wantError(t, "no property, or an Assume", n, p, api.ErrArg)
	}
	if want {
		wantProved(t, "an Assert", n, 1, 0)
		wantVerdict(t, "a Cover", n, 2, api.Verdict{Kind: api.Violated, K: 1, Trace: [][]int{make([]int, len(pins))}})
		return
	}
	wantError(t, "an Assert of a big net", n, 1, api.ErrBig)
	wantError(t, "a Cover of a big net", n, 2, api.ErrBig)
}

// P12.1, L1 to L3: cells of 12 bits in all, and of 13; pins of 8 bits in all, and of 9. A p that is none is told first.
func TestSmall(t *testing.T) {
	ones := func(many int) []int { return slices.Repeat([]int{1}, many) }
	for many := range 15 {
		wantSmall(t, ones(many), nil, many <= 12)
		wantSmall(t, nil, ones(many), many <= 8)
		wantSmall(t, ones(many), ones(2), many <= 12)
		wantSmall(t, ones(2), ones(many), many <= 8)
		if many > 0 {
			wantSmall(t, []int{many}, nil, many <= 12)
			wantSmall(t, nil, []int{many}, many <= 8)
		}
	}
	for _, c := range []struct {
		cells, pins []int
		want        bool
	}{
		{nil, nil, true}, {[]int{6, 6}, []int{4, 4}, true}, {[]int{7, 6}, nil, false}, {[]int{11, 1}, []int{1, 7}, true},
		{[]int{11, 2}, []int{8}, false}, {[]int{12}, []int{9}, false}, {[]int{12}, []int{4, 5}, false}, {[]int{12, 1}, []int{8}, false},
		{[]int{1, 12}, nil, false}, {[]int{16}, nil, false}, {nil, []int{16}, false}, {nil, []int{8, 1}, false}, {[]int{13}, []int{9}, false},
		{[]int{3, 4, 5}, []int{2, 3, 3}, true}, {[]int{3, 4, 6}, []int{2, 3, 3}, false}, {[]int{3, 4, 5}, []int{3, 3, 3}, false},
		{slices.Repeat([]int{16}, 16), nil, false}, {nil, slices.Repeat([]int{16}, 64), false},
		// They are not counted together.
		{[]int{12}, []int{1}, true}, {[]int{4}, []int{8}, true}, {[]int{1}, []int{9}, false}, {nil, []int{12}, false},
	} {
		wantSmall(t, c.cells, c.pins, c.want)
	}
}

// P12.1, L1: nodes that are neither cells nor pins, names and properties make no net big.
func TestWhatMakesNoNetBig(t *testing.T) {
	n := sized([]int{12}, []int{8})
	for range api.MaxNodes - len(n.Nodes) {
		n.Nodes = append(n.Nodes, api.Node{Op: api.Lit, W: 16, N: 1})
	}
	for len(n.Props) < api.MaxProps {
		n.Props = append(n.Props, n.Props[1])
	}
	for i := range n.Nodes {
		n.Names = append(n.Names, api.Pin{Name: "n", Node: i})
	}
	if !net.Right(n) || !reach.Small(n) {
		t.Error(net.Right(n), reach.Small(n))
	}
}

// P12.1, L2, L3: a small net that is as great as one may be, all of whose states are reached, by all rows.
func TestGreatestSmallNet(t *testing.T) {
	var b builder
	in := b.in("i", 8)
	high, low := b.cell("high", 4, 0), b.cell("low", 8, 0)
	b.becomes(low, in)
	b.becomes(high, b.add(api.Node{Op: api.Slice, W: 4, A: low, N: 7, Lo: 4}))
	b.prop(api.Cover, b.lit(1, 0))
	wantProved(t, "never", b.Net, 0, 2)
	wantMany(t, "all", b.Net, 4096)
}

// P12.1, L2, L3: twelve cells of a bit each, that hand on what their input is: each of them tells states apart.
func TestTwelveCells(t *testing.T) {
	var b builder
	bit := b.in("i", 1)
	all := b.lit(1, 1)
	for range 12 {
		cell := b.cell("c", 1, 0)
		b.becomes(cell, bit)
		all = b.of(api.And, all, cell)
		bit = cell
	}
	b.prop(api.Cover, all)
	b.prop(api.Cover, b.lit(1, 0))
	wantMany(t, "all", b.Net, 4096)
	wantViolated(t, "ones", b.Net, 0, append(repeated(12, 1), []int{0})...)
	wantProved(t, "never", b.Net, 1, 12)
}

// P12.1, L2: all p of a net of all kinds: below 0, of an Assume, and of no property.
func TestNoProperty(t *testing.T) {
	n := sized([]int{3}, []int{2})
	big := sized([]int{13}, []int{9})
	for p := -3; p < 8; p++ {
		want := p == 1 || p == 2
		if v, err := reach.Tell(n, p); (err == api.OK) != want || !want && (err != api.ErrArg || !alike(v, api.Verdict{})) {
			t.Errorf("Tell of %d is %+v, %v", p, v, err)
		}
		if want {
			wantError(t, "a big net", big, p, api.ErrBig)
		} else {
			wantError(t, "a big net", big, p, api.ErrArg)
		}
	}
	// A net without properties.
	for _, p := range []int{math.MinInt, -1, 0, 1, 15, 16, math.MaxInt} {
		wantError(t, "no properties", api.Net{}, p, api.ErrArg)
		n.Props, big.Props = nil, []api.Prop{}
		wantError(t, "no properties", n, p, api.ErrArg)
		wantError(t, "no properties", big, p, api.ErrArg)
	}
	wantMany(t, "no properties", n, 1)
	wantMany(t, "nothing at all", api.Net{}, 1)
	if !reach.Small(api.Net{}) || !reach.Small(n) || reach.Small(big) {
		t.Error("Small hangs on properties")
	}
}
