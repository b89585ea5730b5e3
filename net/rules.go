package net

import (
	"proofmark/api"
	"proofmark/vec"
)

// rule says of an op how many operands it has, whether N and Lo tell something of it, and what else must fit.
type rule struct {
	operands int
	n, lo    bool
	fits     func(node) bool
}

// rules are those of all ops that a node may have.
func rules() map[int]rule {
	return map[int]rule{
		api.Lit:    {n: true, fits: node.holds},
		api.Inv:    {operands: 1, fits: node.asWide},
		api.RedOr:  {operands: 1, lo: true, fits: node.tells},
		api.RedAnd: {operands: 1, lo: true, fits: node.tells},
		api.And:    {operands: 2, fits: node.asWide},
		api.Or:     {operands: 2, fits: node.asWide},
		api.Xor:    {operands: 2, fits: node.asWide},
		api.Add:    {operands: 2, fits: node.asWide},
		api.Sub:    {operands: 2, fits: node.asWide},
		api.Mul:    {operands: 2, fits: node.asWide},
		api.Eq:     {operands: 2, lo: true, fits: node.tells},
		api.Ne:     {operands: 2, lo: true, fits: node.tells},
		api.Lt:     {operands: 2, lo: true, fits: node.tells},
		api.Le:     {operands: 2, lo: true, fits: node.tells},
		api.Mux:    {operands: 3, fits: node.chooses},
		api.Cat:    {operands: 2, fits: node.joins},
		api.Slice:  {operands: 1, n: true, lo: true, fits: node.cuts},
		api.In:     {fits: node.stands},
		api.State:  {fits: node.stands},
	}
}

// rightNodes asks of each node the rule of its op.
func rightNodes(nodes []api.Node) bool {
	if len(nodes) > api.MaxNodes {
		return false
	}
	ops := rules()
	for i, x := range nodes {
		r, ok := ops[x.Op]
		if !ok || !(node{x, nodes[:i], r}).right() {
			return false
		}
	}
	return true
}

// node is one of a net, with all that stand ahead of it, and its op's rule.
type node struct {
	api.Node
	ahead []api.Node
	rule  rule
}

// right asks what all ops ask alike ahead of what the op itself does, whose widths are then those of nodes that there are.
func (x node) right() bool {
	return x.W >= 1 && x.W <= api.MaxWidth && x.reaches() && x.bare() && x.rule.fits(x)
}

// reaches: do all operands stand ahead, and is what is no operand 0?
func (x node) reaches() bool {
	for i, place := range []int{x.A, x.B, x.C} {
		if i >= x.rule.operands && place != 0 || i < x.rule.operands && width(x.ahead, place) == 0 {
			return false
		}
	}
	return true
}

// bare: is 0 what tells nothing?
func (x node) bare() bool {
	return (x.rule.n || x.N == 0) && (x.rule.lo || x.Lo == 0)
}

// widths are those of the operands.
func (x node) widths() []int {
	all := []int{width(x.ahead, x.A), width(x.ahead, x.B), width(x.ahead, x.C)}
	return all[:x.rule.operands]
}

// all: has each operand so many bits?
func (x node) all(w int) bool {
	for _, have := range x.widths() {
		if have != w {
			return false
		}
	}
	return true
}

func (x node) holds() bool  { return x.N >= 0 && x.N <= vec.Mask(x.W) }
func (x node) asWide() bool { return x.all(x.W) }
func (x node) tells() bool  { return x.W == 1 && x.all(x.Lo) }
func (x node) stands() bool { return true }

func (x node) chooses() bool {
	w := x.widths()
	return w[0] == 1 && w[1] == x.W && w[2] == x.W
}

func (x node) joins() bool {
	w := x.widths()
	return w[0]+w[1] == x.W
}

func (x node) cuts() bool {
	return x.widths()[0] > x.N && x.Lo >= 0 && x.Lo <= x.N && x.W == x.N-x.Lo+1
}
