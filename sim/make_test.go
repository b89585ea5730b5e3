package sim_test

import (
	"math/rand"
	"slices"

	"proofmark/api"
)

func most(w int) int { return 1<<w - 1 }

// copied is a net that shares nothing with another one.
func copied(n api.Net) api.Net {
	return api.Net{Nodes: slices.Clone(n.Nodes), Ins: slices.Clone(n.Ins), Cells: slices.Clone(n.Cells), Props: slices.Clone(n.Props), Names: slices.Clone(n.Names)}
}

// copiedRows is a trace that shares nothing with another one.
func copiedRows(l [][]int) [][]int {
	var rows [][]int
	for _, row := range l {
		rows = append(rows, slices.Clone(row))
	}
	return rows
}

// builder puts a net together by hand.
type builder struct{ api.Net }

func (b *builder) add(x api.Node) int {
	b.Nodes = append(b.Nodes, x)
	return len(b.Nodes) - 1
}

func (b *builder) lit(w, n int) int { return b.add(api.Node{Op: api.Lit, W: w, N: n}) }

func (b *builder) in(name string, w int) int {
	node := b.add(api.Node{Op: api.In, W: w})
	b.Ins = append(b.Ins, api.Pin{Name: name, Node: node})
	return node
}

// cell stays what it is, till its Next is set.
func (b *builder) cell(name string, w, reset int) int {
	node := b.add(api.Node{Op: api.State, W: w})
	b.Cells = append(b.Cells, api.Cell{Name: name, Node: node, Next: node, Reset: reset})
	return node
}

// becomes sets what the cell of a node is next.
func (b *builder) becomes(node, next int) {
	for i := range b.Cells {
		if b.Cells[i].Node == node {
			b.Cells[i].Next = next
		}
	}
}

// of is a node of two operands, as wide as they are.
func (b *builder) of(op, x, y int) int {
	return b.add(api.Node{Op: op, W: b.Nodes[x].W, A: x, B: y})
}

// tells is a node of one bit, of two operands.
func (b *builder) tells(op, x, y int) int {
	return b.add(api.Node{Op: op, W: 1, A: x, B: y, Lo: b.Nodes[x].W})
}

func (b *builder) inv(x int) int { return b.add(api.Node{Op: api.Inv, W: b.Nodes[x].W, A: x}) }

func (b *builder) prop(kind, node int) {
	b.Props = append(b.Props, api.Prop{Kind: kind, Name: "p", Node: node})
}

// maker makes nets at random.
type maker struct {
	builder
	*rand.Rand
}

// made is a net that is right; now and then it has no pins, no cells, or no properties.
func made(r *rand.Rand) api.Net {
	m := &maker{Rand: r}
	m.lit(1, 1)
	for range r.Intn(4) {
		m.in("i", m.wide())
	}
	for range r.Intn(5) {
		w := m.wide()
		m.cell("c", w, r.Intn(1<<w))
	}
	for range r.Intn(25) {
		m.any()
	}
	for i := range m.Cells {
		m.Cells[i].Next = m.pick(m.Nodes[m.Cells[i].Node].W)
	}
	for range r.Intn(6) {
		m.anyProp()
	}
	return m.Net
}

func (m *maker) wide() int { return []int{1, 1, 2, 2, 3, 4, 16}[m.Intn(7)] }

// pick is any node of so many bits; there is one of each node's width at least.
func (m *maker) pick(w int) int {
	var l []int
	for i, x := range m.Nodes {
		if x.W == w {
			l = append(l, i)
		}
	}
	return l[m.Intn(len(l))]
}

func (m *maker) any() {
	a := m.Intn(len(m.Nodes))
	w := m.Nodes[a].W
	switch ops := []int{api.Lit, api.Inv, api.RedOr, api.Add, api.Sub, api.Xor, api.And, api.Eq, api.Lt, api.Mux}; ops[m.Intn(len(ops))] {
	case api.Lit:
		m.lit(w, m.Intn(1<<w))
	case api.Inv:
		m.inv(a)
	case api.RedOr:
		m.add(api.Node{Op: api.RedOr, W: 1, A: a, Lo: w})
	case api.Add:
		m.of(api.Add, a, m.pick(w))
	case api.Sub:
		m.of(api.Sub, a, m.pick(w))
	case api.Xor:
		m.of(api.Xor, a, m.pick(w))
	case api.And:
		m.of(api.And, a, m.pick(w))
	case api.Eq:
		m.tells(api.Eq, a, m.pick(w))
	case api.Lt:
		m.tells(api.Lt, a, m.pick(w))
	case api.Mux:
		m.add(api.Node{Op: api.Mux, W: w, A: m.pick(1), B: a, C: m.pick(w)})
	}
}

// anyProp is one more property. Assumptions hold more often than not, so that some are there ahead of a hit.
func (m *maker) anyProp() {
	kind, node := api.Assert+m.Intn(3), m.pick(1)
	if kind == api.Assume {
		node = m.of(api.Or, m.of(api.Or, node, m.pick(1)), m.pick(1))
	}
	m.prop(kind, node)
}

// row is one of inputs, and trace is some of them.
func row(r *rand.Rand, n api.Net) []int {
	var l []int
	for _, p := range n.Ins {
		w := n.Nodes[p.Node].W
		l = append(l, []int{0, 1, most(w), r.Intn(1 << w)}[r.Intn(4)])
	}
	return l
}

func trace(r *rand.Rand, n api.Net) [][]int {
	var l [][]int
	for range []int{0, 1, 2, 3, 3 + r.Intn(6), 3 + r.Intn(6), 3 + r.Intn(12), []int{3, 3, 64}[r.Intn(3)]}[r.Intn(8)] {
		l = append(l, row(r, n))
	}
	return l
}
