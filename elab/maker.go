package elab

import (
	"proofmark/api"
	"proofmark/dims"
)

// maker makes a design's net.
type maker struct {
	plan
	api.Net
	bits int  // of all cells
	big  bool // there is more than a net may have: nothing is made any more
}

// flat is the net, and whether it is no bigger than a net may be.
func (p plan) flat() (api.Net, bool) {
	m := &maker{plan: p}
	top, ins := p.top(), map[string]int{}
	for _, port := range p.Modules[top.module].Ports {
		if port.In {
			ins[port.Name] = m.input(port)
		}
	}
	m.Props = m.instance(top, "", ins).allProps()
	return m.Net, !m.big && len(m.Props) <= api.MaxProps
}

// input is the node of a port of the top, which has no parameters.
func (m *maker) input(p api.Port) int {
	w, _ := dims.Width(p.Wid, nil, nil)
	node := m.add(api.Node{Op: api.In, W: w})
	m.Ins = append(m.Ins, api.Pin{Name: p.Name, Node: node})
	return node
}

// add puts a node behind the others, and tells where it stands.
func (m *maker) add(n api.Node) int {
	if len(m.Nodes) >= api.MaxNodes {
		m.big = true
	}
	if m.big {
		return 0
	}
	m.Nodes = append(m.Nodes, n)
	return len(m.Nodes) - 1
}

// cell is the place of a new one, that stays what it is so far. Cells need no limit of their own: each has a bit at least.
func (m *maker) cell(name string, w, reset int) int {
	m.bits += w
	if m.bits > api.MaxLatches {
		m.big = true
	}
	node := m.add(api.Node{Op: api.State, W: w})
	m.Cells = append(m.Cells, api.Cell{Name: name, Node: node, Next: node, Reset: reset})
	return len(m.Cells) - 1
}

// wide is a node's width; where nothing is made any more there may be no such node.
func (m *maker) wide(node int) int {
	if node >= len(m.Nodes) {
		return 0
	}
	return m.Nodes[node].W
}

func (m *maker) lit(n, w int) int { return m.add(api.Node{Op: api.Lit, W: w, N: n}) }

func (m *maker) mux(which, yes, no int) int {
	return m.add(api.Node{Op: api.Mux, W: m.wide(no), A: which, B: yes, C: no})
}

// isWord is whether a node, that says which word of a memory is meant, says that this one is.
func (m *maker) isWord(at, word int) int {
	w := m.wide(at)
	return m.add(api.Node{Op: api.Eq, W: 1, A: at, B: m.lit(word, w), Lo: w})
}
