package net_test

import (
	"math/rand"
	"slices"

	"proofmark/api"
)

var allOps = []int{api.Lit, api.Inv, api.RedOr, api.RedAnd, api.And, api.Or, api.Xor, api.Add, api.Sub, api.Mul,
	api.Eq, api.Ne, api.Lt, api.Le, api.Mux, api.Cat, api.Slice, api.In, api.State}

// has tells how many operands each op has.
var has = map[int]int{api.Inv: 1, api.RedOr: 1, api.RedAnd: 1, api.And: 2, api.Or: 2, api.Xor: 2, api.Add: 2, api.Sub: 2, api.Mul: 2,
	api.Eq: 2, api.Ne: 2, api.Lt: 2, api.Le: 2, api.Mux: 3, api.Cat: 2, api.Slice: 1}

func most(w int) int { return 1<<w - 1 }

// copied is a net that shares nothing with another one.
func copied(n api.Net) api.Net {
	return api.Net{Nodes: slices.Clone(n.Nodes), Ins: slices.Clone(n.Ins), Cells: slices.Clone(n.Cells), Props: slices.Clone(n.Props), Names: slices.Clone(n.Names)}
}

// maker makes nets that are right, of nodes at random.
type maker struct {
	r    *rand.Rand
	n    api.Net
	bits int
}

// made is a net of some nodes, of the ops that are handed in.
func made(r *rand.Rand, size int, ops []int) api.Net {
	m := &maker{r: r}
	for range size {
		m.add(ops[r.Intn(len(ops))])
	}
	for i := range m.n.Cells {
		c := &m.n.Cells[i]
		w := m.n.Nodes[c.Node].W
		c.Next, c.Reset = m.of(w), r.Intn(1<<w)
	}
	for i := range 3 {
		if p := m.of(1); p >= 0 && len(m.n.Props) < 16 {
			m.n.Props = append(m.n.Props, api.Prop{Kind: 8 + i, Name: "p", Node: p})
		}
		if size > 0 {
			m.n.Names = append(m.n.Names, api.Pin{Name: "n", Node: r.Intn(size)})
		}
	}
	return m.n
}

// of is any node of so many bits, or -1.
func (m *maker) of(w int) int {
	var l []int
	for i, x := range m.n.Nodes {
		if x.W == w {
			l = append(l, i)
		}
	}
	if len(l) == 0 {
		return -1
	}
	return l[m.r.Intn(len(l))]
}

// add puts one more node behind the others: of that op, if operands stand there that it can have, else a number.
func (m *maker) add(op int) {
	x, ok := m.node(op)
	if !ok {
		w := 1 + m.r.Intn(16)
		x = api.Node{Op: api.Lit, W: w, N: m.r.Intn(1 << w)}
	}
	place := len(m.n.Nodes)
	m.n.Nodes = append(m.n.Nodes, x)
	switch x.Op {
	case api.In:
		m.n.Ins = append(m.n.Ins, api.Pin{Name: "i", Node: place})
	case api.State:
		m.n.Cells = append(m.n.Cells, api.Cell{Name: "c", Node: place})
		m.bits += x.W
	}
}

func (m *maker) node(op int) (api.Node, bool) {
	nodes := m.n.Nodes
	small := []int{1, 1, 2, 3, 4, 16, 1 + m.r.Intn(16)}[m.r.Intn(7)]
	switch op {
	case api.Lit:
		return api.Node{Op: op, W: small, N: m.r.Intn(1 << small)}, true
	case api.In:
		return api.Node{Op: op, W: small}, len(m.n.Ins) < 64
	case api.State:
		return api.Node{Op: op, W: small}, m.bits+small <= 256
	}
	if len(nodes) == 0 {
		return api.Node{}, false
	}
	a := m.r.Intn(len(nodes))
	w := nodes[a].W
	x := api.Node{Op: op, W: w, A: a}
	switch op {
	case api.RedOr, api.RedAnd, api.Eq, api.Ne, api.Lt, api.Le:
		x.W, x.Lo = 1, w
	case api.Mux:
		x.A, x.B, x.C = m.of(1), a, m.of(w)
		return x, x.A >= 0
	case api.Cat:
		x.B = m.r.Intn(len(nodes))
		x.W += nodes[x.B].W
		return x, x.W <= 16
	case api.Slice:
		x.N = m.r.Intn(w)
		x.Lo = m.r.Intn(x.N + 1)
		x.W = x.N - x.Lo + 1
		return x, true
	}
	if has[op] == 2 {
		x.B = m.of(w)
	}
	return x, true
}

// state is one at random, ins a row of inputs.
func state(r *rand.Rand, n api.Net) []int {
	var l []int
	for _, c := range n.Cells {
		l = append(l, number(r, n.Nodes[c.Node].W))
	}
	return l
}

func ins(r *rand.Rand, n api.Net) []int {
	var l []int
	for _, p := range n.Ins {
		l = append(l, number(r, n.Nodes[p.Node].W))
	}
	return l
}

func number(r *rand.Rand, w int) int {
	return []int{0, 1, most(w), r.Intn(1 << w), r.Intn(1 << w)}[r.Intn(5)]
}
