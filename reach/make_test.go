package reach_test

import (
	"math/rand"
	"slices"

	"proofmark/api"
)

func most(w int) int { return 1<<w - 1 }

// copied is a net that shares nothing with another one.
func copied(n api.Net) api.Net {
	return api.Net{Nodes: slices.Clone(n.Nodes), Ins: slices.Clone(n.Ins), Cells: slices.Clone(n.Cells), Props: slices.Clone(n.Props), Names: slices.Clone(n.Names)}
}

// copiedRows is a trace that shares nothing with another one.
func copiedRows(l [][]int) [][]int {
	var rows [][]int
	for _, row := range l {
		rows = append(rows, slices.Clone(row))
	}
	return rows
}

// builder puts a net together by hand.
type builder struct{ api.Net }

func (b *builder) add(x api.Node) int {
	b.Nodes = append(b.Nodes, x)
	return len(b.Nodes) - 1
}

func (b *builder) lit(w, n int) int { return b.add(api.Node{Op: api.Lit, W: w, N: n}) }

func (b *builder) in(name string, w int) int {
	node := b.add(api.Node{Op: api.In, W: w})
	b.Ins = append(b.Ins, api.Pin{Name: name, Node: node})
	return node
}

// cell stays what it is, till its Next is set.
func (b *builder) cell(name string, w, reset int) int {
	node := b.add(api.Node{Op: api.State, W: w})
	b.Cells = append(b.Cells, api.Cell{Name: name, Node: node, Next: node, Reset: reset})
	return node
}

// becomes sets what the cell of a node is next.
func (b *builder) becomes(node, next int) {
	for i := range b.Cells {
		if b.Cells[i].Node == node {
			b.Cells[i].Next = next
		}
	}
}

// of is a node of two operands, as wide as they are.
func (b *builder) of(op, x, y int) int {
	return b.add(api.Node{Op: op, W: b.Nodes[x].W, A: x, B: y})
}

// tells is a node of one bit, of two operands.
func (b *builder) tells(op, x, y int) int {
	return b.add(api.Node{Op: op, W: 1, A: x, B: y, Lo: b.Nodes[x].W})
}

// is tells whether a node is a number.
func (b *builder) is(x, number int) int { return b.tells(api.Eq, x, b.lit(b.Nodes[x].W, number)) }

func (b *builder) inv(x int) int { return b.add(api.Node{Op: api.Inv, W: b.Nodes[x].W, A: x}) }

func (b *builder) mux(which, x, y int) int {
	return b.add(api.Node{Op: api.Mux, W: b.Nodes[x].W, A: which, B: x, C: y})
}

func (b *builder) prop(kind, node int) {
	b.Props = append(b.Props, api.Prop{Kind: kind, Name: "p", Node: node})
}

// maker makes nets at random.
type maker struct {
	builder
	*rand.Rand
}

// made is a net that is right and small; now and then it has no pins, no cells, or no properties.
func made(r *rand.Rand) api.Net {
	m := &maker{Rand: r}
	m.lit(1, r.Intn(2))
	for range r.Intn(3) {
		m.in("i", 1+r.Intn(2))
	}
	for range r.Intn(4) {
		w := 1 + r.Intn(3)
		m.cell("c", w, r.Intn(1<<w))
	}
	for range r.Intn(15) {
		m.any()
	}
	for i := range m.Cells {
		m.Cells[i].Next = m.next(m.Cells[i].Node)
	}
	for range r.Intn(6) {
		m.anyProp()
	}
	return m.Net
}

// next is what a cell is next: any node now and then, but mostly what counts on, held back here or there, so that many
// states are reached, one by one.
func (m *maker) next(cell int) int {
	w := m.Nodes[cell].W
	by := m.lit(w, 1)
	if m.Intn(3) == 0 {
		by = m.pick(w)
	}
	on := m.of(api.Add, cell, by)
	switch m.Intn(5) {
	case 0:
		return m.pick(w)
	case 1:
		return on
	case 2:
		return m.mux(m.is(cell, m.Intn(1<<w)), m.pick(w), on)
	}
	return m.mux(m.pick(1), on, cell)
}

// pick is any node of so many bits, and of those that were made last more often; there is one of each node's width at least.
func (m *maker) pick(w int) int {
	var l []int
	for i, x := range m.Nodes {
		if x.W == w {
			l = append(l, i)
		}
	}
	return l[max(m.Intn(len(l)), m.Intn(len(l)))]
}

func (m *maker) any() {
	a := m.Intn(len(m.Nodes))
	w := m.Nodes[a].W
	switch ops := []int{api.Lit, api.Inv, api.RedOr, api.Add, api.Add, api.Sub, api.Xor, api.And, api.Eq, api.Lt, api.Mux, api.Mux}; ops[m.Intn(len(ops))] {
	case api.Lit:
		m.lit(w, m.Intn(1<<w))
	case api.Inv:
		m.inv(a)
	case api.RedOr:
		m.add(api.Node{Op: api.RedOr, W: 1, A: a, Lo: w})
	case api.Add:
		m.of(api.Add, a, m.pick(w))
	case api.Sub:
		m.of(api.Sub, a, m.pick(w))
	case api.Xor:
		m.of(api.Xor, a, m.pick(w))
	case api.And:
		m.of(api.And, a, m.pick(w))
	case api.Eq:
		m.tells(api.Eq, a, m.pick(w))
	case api.Lt:
		m.tells(api.Lt, a, m.pick(w))
	case api.Mux:
		m.mux(m.pick(1), a, m.pick(w))
	}
}

// rare is a node of one bit that is seldom 1: what some cells are, if there are any.
func (m *maker) rare() int {
	node := m.pick(1)
	for _, c := range m.Cells {
		if m.Intn(4) > 0 {
			node = m.of(api.And, node, m.is(c.Node, m.Intn(1<<m.Nodes[c.Node].W)))
		}
	}
	return node
}

// anyProp is one more property. What is hit is rare, and assumptions hold more often than not, so that traces are long.
func (m *maker) anyProp() {
	switch kind := api.Assert + m.Intn(3); kind {
	case api.Cover:
		m.prop(kind, m.rare())
	case api.Assert:
		m.prop(kind, m.inv(m.rare()))
	case api.Assume:
		m.prop(kind, m.of(api.Or, m.inv(m.rare()), m.pick(1)))
	}
}

// row is one of inputs, and trace is some of them.
func row(r *rand.Rand, n api.Net) []int {
	l := []int{}
	for _, p := range n.Ins {
		l = append(l, r.Intn(1<<n.Nodes[p.Node].W))
	}
	return l
}

func trace(r *rand.Rand, n api.Net, many int) [][]int {
	var l [][]int
	for range many {
		l = append(l, row(r, n))
	}
	return l
}
