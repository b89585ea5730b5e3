package elab

import (
	"slices"
	"strconv"

	"proofmark/api"
	"proofmark/dims"
)

// instance is one that is being made.
type instance struct {
	*maker
	at     place
	module api.Module
	path   string
	nodes  map[string]int   // what its names are, and its instances' ports, by both names
	words  map[string][]int // the cells of its registers and memories
	props  [][]api.Prop     // of each item
	late   []func()         // what is put off till all else is made
}

// instance makes one, of its in-ports' nodes.
func (m *maker) instance(at place, path string, ins map[string]int) *instance {
	module := m.Modules[at.module]
	x := &instance{
		maker: m, at: at, module: module, path: path,
		nodes: map[string]int{}, words: map[string][]int{}, props: make([][]api.Prop, len(module.Items)),
	}
	if m.big {
		return x
	}
	x.enter(ins)
	x.store()
	x.settle()
	x.change()
	x.catchUp()
	return x
}

func (x *instance) value(d api.Dim) int {
	n, _ := dims.Value(d, x.module.Params, x.at.vals)
	return n
}

// call says what a name is: here, and, with the path ahead, in the net.
func (x *instance) call(name string, node int) {
	x.nodes[name] = node
	x.Names = append(x.Names, api.Pin{Name: x.path + name, Node: node})
}

func (x *instance) enter(ins map[string]int) {
	for _, p := range x.module.Ports {
		if p.In {
			x.call(p.Name, ins[p.Name])
		}
	}
}

// store makes the cells of registers and memories, which may be named ahead of what they are next.
func (x *instance) store() {
	for _, it := range x.module.Items {
		switch it.Kind {
		case api.Reg:
			x.word(it, it.Name, x.value(it.Val))
		case api.Mem:
			for k := range x.value(it.Val) {
				x.word(it, it.Name+"["+strconv.Itoa(k)+"]", 0)
			}
		}
	}
}

// word is one more cell of an item, by its own name.
func (x *instance) word(it api.Item, name string, reset int) {
	c := x.cell(x.path+name, x.value(it.Wid), reset)
	x.words[it.Name] = append(x.words[it.Name], c)
	x.call(name, x.Cells[c].Node)
}

// settle makes what things are in a cycle, each behind what it hangs on.
func (x *instance) settle() {
	for _, i := range x.order(x.at.module) {
		switch it := x.module.Items[i]; it.Kind {
		case api.Wire, api.Drive:
			x.call(it.Name, x.expr(it.E))
		case api.Inst:
			x.props[i] = x.inner(it)
		}
	}
}

// inner makes an instance that stands here; its properties are told.
func (x *instance) inner(it api.Item) []api.Prop {
	ins := map[string]int{}
	for _, b := range it.Binds {
		ins[b.Port] = x.expr(b.E)
	}
	in := x.instance(x.inside(x.at, it), x.path+it.Name+".", ins)
	for _, p := range in.module.Ports {
		if !p.In {
			x.nodes[it.Name+"."+p.Name] = in.nodes[p.Name]
		}
	}
	return in.allProps()
}

func (x *instance) allProps() []api.Prop { return slices.Concat(x.props...) }

// change makes what cells are next, and the properties.
func (x *instance) change() {
	for i, it := range x.module.Items {
		switch it.Kind {
		case api.Next:
			x.become(x.words[it.Name][0], x.expr(it.E))
		case api.Put:
			x.put(it)
		case api.Assert, api.Assume, api.Cover:
			x.props[i] = []api.Prop{{Kind: it.Kind, Name: x.path + it.Name, Node: x.expr(it.E)}}
		}
	}
}

func (x *instance) become(cell, next int) { x.Cells[cell].Next = next }

// put has words be next what was put there, or what they were to be so far.
func (x *instance) put(it api.Item) {
	at, e, cond := x.expr(it.At), x.expr(it.E), x.expr(it.If)
	for k, c := range x.reached(it.Name, at) {
		is := x.add(api.Node{Op: api.And, W: 1, A: cond, B: x.isWord(at, k)})
		x.become(c, x.mux(is, e, x.Cells[c].Next))
	}
}

// reached are the cells of those words that a node has enough bits to mean.
func (x *instance) reached(mem string, at int) []int {
	words := x.words[mem]
	return words[:min(len(words), 1<<x.wide(at))]
}

// catchUp makes what was put off; more may be put off by this.
func (x *instance) catchUp() {
	for i := 0; i < len(x.late); i++ {
		x.late[i]()
	}
}
