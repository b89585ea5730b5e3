package elab

import (
	"strconv"

	"proofmark/api"
	"proofmark/width"
)

// expr is an expression's node.
func (x *instance) expr(e api.Expr) int { return x.exprAt(e, 0) }

// exprAt is that of one that stands in so many others, each of which makes a node: of too many there are too many nodes.
func (x *instance) exprAt(e api.Expr, deep int) int {
	if deep > api.MaxNodes {
		x.big = true
	}
	if x.big {
		return 0
	}
	switch e.Op {
	case api.Ref:
		return x.nodes[e.Name]
	case api.Past:
		return x.past(e.Kids[0])
	case api.Lit:
		return x.lit(x.value(e.Val), x.value(e.Wid))
	}
	var kids [3]int
	for i, kid := range e.Kids {
		kids[i] = x.exprAt(kid, deep+1)
	}
	if e.Op == api.Read {
		return x.read(e.Name, kids[0])
	}
	return x.add(x.joined(e, kids))
}

// joined is the node of an expression whose Kids have these.
func (x *instance) joined(e api.Expr, kids [3]int) api.Node {
	n := api.Node{Op: e.Op, W: x.wide(kids[0]), A: kids[0], B: kids[1], C: kids[2]}
	switch e.Op {
	case api.RedOr, api.RedAnd, api.Eq, api.Ne, api.Lt, api.Le:
		n.W, n.Lo = 1, n.W
	case api.Mux:
		n.W = x.wide(n.B)
	case api.Cat:
		n.W += x.wide(n.B)
	case api.Slice:
		n.N, n.Lo = x.value(e.Hi), x.value(e.Lo)
		n.W = n.N - n.Lo + 1
	}
	return n
}

// read is the word that a node means, and 0 where there is none.
func (x *instance) read(mem string, at int) int {
	first := x.Cells[x.words[mem][0]].Node
	is := x.lit(0, x.wide(first))
	for k, c := range x.reached(mem, at) {
		is = x.mux(x.isWord(at, k), x.Cells[c].Node, is)
	}
	return is
}

// past is a cell's node; what that is next is put off, since it may hang on all that is not made yet.
func (x *instance) past(kid api.Expr) int {
	w, _ := width.Of(x.Design, x.at.module, x.at.vals, kid)
	c := x.cell(x.path+"past#"+strconv.Itoa(len(x.late)), w, 0)
	x.late = append(x.late, func() { x.become(c, x.expr(kid)) })
	return x.Cells[c].Node
}
