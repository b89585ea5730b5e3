package elab_test

import (
	"fmt"
	"slices"

	"proofmark/api"
	"proofmark/dims"
	"proofmark/drive"
	"proofmark/scope"
	"proofmark/width"
)

// A second reading of J1 to J4, word for word, whatever it costs.
type inst struct {
	mod  int
	vals []int
	path string
	deep int
}

func topOf(d api.Design) inst { return inst{mod: len(d.Modules) - 1, deep: 1} }

func (s inst) inner(d api.Design, it api.Item) inst {
	vals, err := dims.Values(it.Args, d.Modules[s.mod].Params, s.vals)
	at := slices.IndexFunc(d.Modules, func(m api.Module) bool { return m.Name == it.Mod })
	if err != api.OK || at < 0 {
		panic(fmt.Sprint("no instance of ", it.Mod, ": ", err))
	}
	return inst{at, vals, s.path + it.Name + ".", s.deep + 1}
}

// visited are the instances in their order, up to the first of which something is told.
func visited(d api.Design) ([]inst, []api.Fault) {
	big := []api.Fault{{Err: api.ErrBig, Mod: len(d.Modules) - 1, Item: -1}}
	var l []inst
	for next := []inst{topOf(d)}; len(next) > 0; {
		s := next[0]
		l = append(l, s)
		if len(l) == 4001 || s.deep > 8 {
			return l, big
		}
		if faults := append(width.Check(d, s.mod, s.vals), drive.Check(d, s.mod)...); len(faults) > 0 {
			return l, faults
		}
		var inner []inst
		for _, it := range d.Modules[s.mod].Items {
			if it.Kind == api.Inst {
				inner = append(inner, s.inner(d, it))
			}
		}
		next = append(inner, next[1:]...)
	}
	return l, nil
}

func readElab(d api.Design) (api.Net, []api.Fault) {
	if faults := scope.Check(d); len(faults) > 0 {
		return api.Net{}, faults
	}
	if _, faults := visited(d); len(faults) > 0 {
		return api.Net{}, faults
	}
	r := &netReader{d: d}
	top := topOf(d)
	ins := map[string]int{}
	for _, p := range d.Modules[top.mod].Ports {
		if p.In {
			ins[p.Name] = r.put(api.Node{Op: api.In, W: p.Wid.N})
			r.n.Ins = append(r.n.Ins, api.Pin{Name: p.Name, Node: ins[p.Name]})
		}
	}
	_, r.n.Props = r.make(top, ins)
	bits := 0
	for _, c := range r.n.Cells {
		bits += r.n.Nodes[c.Node].W
	}
	if len(r.n.Nodes) > 4000 || len(r.n.Cells) > 256 || bits > 256 || len(r.n.Props) > 16 {
		return api.Net{}, []api.Fault{{Err: api.ErrBig, Mod: top.mod, Item: -1}}
	}
	return r.n, nil
}

type netReader struct {
	d api.Design
	n api.Net
}

func (r *netReader) put(x api.Node) int {
	r.n.Nodes = append(r.n.Nodes, x)
	return len(r.n.Nodes) - 1
}

func (r *netReader) call(name string, node int) {
	r.n.Names = append(r.n.Names, api.Pin{Name: name, Node: node})
}

// cell is its place.
func (r *netReader) cell(name string, w, reset int) int {
	node := r.put(api.Node{Op: api.State, W: w})
	r.n.Cells = append(r.n.Cells, api.Cell{Name: name, Node: node, Next: node, Reset: reset})
	return len(r.n.Cells) - 1
}

// scene is an instance while it is read.
type scene struct {
	*netReader
	inst
	m     api.Module
	ins   map[string]int
	wires map[string]int
	outs  map[string]int            // of its own out-ports
	inner map[string]map[string]int // of its instances' out-ports
	regs  map[string]int            // places of cells
	mems  map[string][]int
	pasts []struct {
		cell int
		kid  api.Expr
	}
}

func (r *netReader) make(s inst, ins map[string]int) (map[string]int, []api.Prop) {
	x := &scene{
		netReader: r, inst: s, m: r.d.Modules[s.mod], ins: ins, wires: map[string]int{}, outs: map[string]int{},
		inner: map[string]map[string]int{}, regs: map[string]int{}, mems: map[string][]int{},
	}
	for _, p := range x.m.Ports {
		if p.In {
			r.call(s.path+p.Name, ins[p.Name])
		}
	}
	x.cells()
	props := map[int][]api.Prop{}
	order, _ := drive.Order(r.d, s.mod)
	for _, i := range order {
		props[i] = x.value(x.m.Items[i])
	}
	for i, it := range x.m.Items {
		x.next(it)
		if it.Kind >= api.Assert {
			props[i] = []api.Prop{{Kind: it.Kind, Name: s.path + it.Name, Node: x.expr(it.E)}}
		}
	}
	for len(x.pasts) > 0 {
		left := x.pasts
		x.pasts = nil
		for _, p := range left {
			x.becomes(p.cell, x.expr(p.kid))
		}
	}
	var all []api.Prop
	for i := range x.m.Items {
		all = append(all, props[i]...)
	}
	return x.outs, all
}

func (x *scene) num(d api.Dim) int {
	n, err := dims.Value(d, x.m.Params, x.vals)
	if err != api.OK {
		panic(err)
	}
	return n
}

func (x *scene) wid(e api.Expr) int {
	w, err := width.Of(x.d, x.mod, x.vals, e)
	if err != api.OK {
		panic(err)
	}
	return w
}

func (x *scene) cells() {
	for _, it := range x.m.Items {
		if it.Kind == api.Reg {
			c := x.cell(x.path+it.Name, x.num(it.Wid), x.num(it.Val))
			x.regs[it.Name] = c
			x.call(x.path+it.Name, x.n.Cells[c].Node)
		}
		for k := 0; it.Kind == api.Mem && k < x.num(it.Val); k++ {
			c := x.cell(fmt.Sprintf("%s%s[%d]", x.path, it.Name, k), x.num(it.Wid), 0)
			x.mems[it.Name] = append(x.mems[it.Name], c)
			x.call(fmt.Sprintf("%s%s[%d]", x.path, it.Name, k), x.n.Cells[c].Node)
		}
	}
}

func (x *scene) value(it api.Item) []api.Prop {
	switch it.Kind {
	case api.Wire:
		x.wires[it.Name] = x.expr(it.E)
		x.call(x.path+it.Name, x.wires[it.Name])
	case api.Drive:
		x.outs[it.Name] = x.expr(it.E)
		x.call(x.path+it.Name, x.outs[it.Name])
	case api.Inst:
		ins := map[string]int{}
		for _, b := range it.Binds {
			ins[b.Port] = x.expr(b.E)
		}
		outs, props := x.make(x.inst.inner(x.d, it), ins)
		x.inner[it.Name] = outs
		return props
	}
	return nil
}

func (x *scene) becomes(cell, node int) { x.n.Cells[cell].Next = node }

func (x *scene) next(it api.Item) {
	if it.Kind == api.Next {
		x.becomes(x.regs[it.Name], x.expr(it.E))
	}
	if it.Kind != api.Put {
		return
	}
	at := x.expr(it.At)
	e := x.expr(it.E)
	cond := x.expr(it.If)
	for k, c := range x.mems[it.Name] {
		if k < 1<<x.wid(it.At) {
			lit := x.put(api.Node{Op: api.Lit, W: x.wid(it.At), N: k})
			eq := x.put(api.Node{Op: api.Eq, W: 1, A: at, B: lit, Lo: x.wid(it.At)})
			and := x.put(api.Node{Op: api.And, W: 1, A: cond, B: eq})
			x.becomes(c, x.put(api.Node{Op: api.Mux, W: x.wid(it.E), A: and, B: e, C: x.n.Cells[c].Next}))
		}
	}
}

func (x *scene) expr(e api.Expr) int {
	if e.Op == api.Ref {
		return x.ref(e.Name)
	}
	if e.Op == api.Past {
		c := x.cell(fmt.Sprintf("%spast#%d", x.path, x.met()), x.wid(e.Kids[0]), 0)
		x.pasts = append(x.pasts, struct {
			cell int
			kid  api.Expr
		}{c, e.Kids[0]})
		return x.n.Cells[c].Node
	}
	n := api.Node{Op: e.Op, W: x.wid(e)}
	for i, kid := range e.Kids {
		*[]*int{&n.A, &n.B, &n.C}[i] = x.expr(kid)
	}
	switch e.Op {
	case api.Read:
		return x.read(e, n.A)
	case api.Lit:
		n.N = x.num(e.Val)
	case api.RedOr, api.RedAnd, api.Eq, api.Ne, api.Lt, api.Le:
		n.Lo = x.wid(e.Kids[0])
	case api.Slice:
		n.N, n.Lo = x.num(e.Hi), x.num(e.Lo)
	}
	return x.put(n)
}

// met is how many Pasts were met in this instance: their cells have its path, and no name behind another dot.
func (x *scene) met() int {
	many := 0
	for _, c := range x.n.Cells {
		var k int
		if n, _ := fmt.Sscanf(c.Name, x.path+"past#%d", &k); n == 1 {
			many++
		}
	}
	return many
}

func (x *scene) ref(name string) int {
	for inst, outs := range x.inner {
		for port, node := range outs {
			if inst+"."+port == name {
				return node
			}
		}
	}
	if c, ok := x.regs[name]; ok {
		return x.n.Cells[c].Node
	}
	for _, names := range []map[string]int{x.ins, x.wires} {
		if node, ok := names[name]; ok {
			return node
		}
	}
	panic("no such name: " + name)
}

func (x *scene) read(e api.Expr, at int) int {
	w := x.wid(e.Kids[0])
	is := x.put(api.Node{Op: api.Lit, W: x.wid(e)})
	for k, c := range x.mems[e.Name] {
		if k < 1<<w {
			lit := x.put(api.Node{Op: api.Lit, W: w, N: k})
			eq := x.put(api.Node{Op: api.Eq, W: 1, A: at, B: lit, Lo: w})
			is = x.put(api.Node{Op: api.Mux, W: x.wid(e), A: eq, B: x.n.Cells[c].Node, C: is})
		}
	}
	return is
}
