package scope

import (
	"slices"
	"strings"

	"proofmark/api"
)

// checker keeps what is asked for over and over while a design is checked.
type checker struct {
	modules []api.Module
	first   map[string]int // where the module of a name stands
	finders []finder       // of each module its own
	takes   map[int]int    // how many Kids an Op takes
}

func newChecker(modules []api.Module) checker {
	c := checker{modules: modules, first: map[string]int{}, takes: kidsTaken()}
	for i, m := range modules {
		if _, ok := c.first[m.Name]; !ok {
			c.first[m.Name] = i
		}
		c.finders = append(c.finders, newFinder(m))
	}
	return c
}

// kidsTaken has no Op that is none, so that it is seen where one is looked for.
func kidsTaken() map[int]int {
	return map[int]int{
		api.Lit: 0, api.Ref: 0,
		api.Inv: 1, api.RedOr: 1, api.RedAnd: 1, api.Slice: 1, api.Read: 1, api.Past: 1,
		api.And: 2, api.Or: 2, api.Xor: 2, api.Add: 2, api.Sub: 2, api.Mul: 2,
		api.Eq: 2, api.Ne: 2, api.Lt: 2, api.Le: 2, api.Cat: 2,
		api.Mux: 3,
	}
}

// module is what is wrong with a module, but for its items.
func (c checker) module(at int) api.Errno {
	m := c.modules[at]
	if c.first[m.Name] != at || headTwice(m) {
		return api.ErrTwice
	}
	if at == len(c.modules)-1 && len(m.Params) > 0 {
		return api.ErrArg
	}
	for _, p := range m.Ports {
		if c.lacksParam(at, p.Wid) {
			return api.ErrParam
		}
	}
	return api.OK
}

// headTwice tells whether a name stands twice among params and ports.
func headTwice(m api.Module) bool {
	names := map[string]bool{}
	for _, name := range m.Params {
		names[name] = true
	}
	for _, p := range m.Ports {
		names[p.Name] = true
	}
	return len(names) < len(m.Params)+len(m.Ports)
}

// lacksParam tells whether a number has the name of a param that there is not.
func (c checker) lacksParam(mod int, l ...api.Dim) bool {
	return slices.ContainsFunc(l, func(d api.Dim) bool {
		return d.Name != "" && c.finders[mod](d.Name).kind != isParam
	})
}

// item is what is wrong first with an item, which has a name that stands ahead already, if twice says so.
func (c checker) item(mod int, it api.Item, twice bool) api.Errno {
	if twice {
		return api.ErrTwice
	}
	if err := c.target(mod, it); err != api.OK {
		return err
	}
	if c.lacksParam(mod, dimsOf(it)...) {
		return api.ErrParam
	}
	for _, e := range exprsOf(it) {
		if err := c.expr(mod, e); err != api.OK {
			return err
		}
	}
	return api.OK
}

// target is what is wrong with what an item, by its kind, is about: a module, or something that stands elsewhere in its own.
func (c checker) target(mod int, it api.Item) api.Errno {
	find := c.finders[mod]
	switch it.Kind {
	case api.Wire, api.Reg, api.Mem, api.Assert, api.Assume, api.Cover:
		return api.OK
	case api.Inst:
		return c.instance(mod, it)
	case api.Next:
		return wanted(find(it.Name), isReg)
	case api.Drive:
		return wanted(find(it.Name), isOut)
	case api.Put:
		return wanted(find(it.Name), isMem)
	}
	return api.ErrKind
}

func (c checker) instance(mod int, it api.Item) api.Errno {
	at, ok := c.first[it.Mod]
	if !ok {
		return api.ErrNone
	}
	if at >= mod {
		return api.ErrLoop
	}
	of := c.modules[at]
	if len(it.Args) != len(of.Params) {
		return api.ErrArg
	}
	if !bound(of.Ports, it.Binds) {
		return api.ErrPort
	}
	return api.OK
}

// bound tells whether there is a bind for each port that goes in.
func bound(ports []api.Port, binds []api.Bind) bool {
	ins, open := 0, map[string]bool{}
	for _, p := range ports {
		if p.In {
			ins++
			open[p.Name] = true
		}
	}
	if ins != len(binds) {
		return false
	}
	for _, b := range binds {
		if !open[b.Port] {
			return false
		}
		// A second bind of a port is then refused as one of no port is.
		open[b.Port] = false
	}
	return true
}

// wanted is what is wrong with a name that has to be of one of these kinds.
func wanted(p place, kinds ...int) api.Errno {
	if p.kind == 0 {
		return api.ErrNone
	}
	if !slices.Contains(kinds, p.kind) {
		return api.ErrKind
	}
	return api.OK
}

func dimsOf(it api.Item) []api.Dim {
	switch it.Kind {
	case api.Wire:
		return []api.Dim{it.Wid}
	case api.Reg, api.Mem:
		return []api.Dim{it.Wid, it.Val}
	case api.Inst:
		return it.Args
	}
	return nil
}

func exprsOf(it api.Item) []api.Expr {
	switch it.Kind {
	case api.Put:
		return []api.Expr{it.At, it.E, it.If}
	case api.Inst:
		var l []api.Expr
		for _, b := range it.Binds {
			l = append(l, b.E)
		}
		return l
	case api.Reg, api.Mem:
		return nil
	}
	return []api.Expr{it.E}
}

// row is one of Kids: which one, not what stands in it.
type row struct {
	first *api.Expr
	size  int
}

// expr is what is wrong first with an expression. What is left of it waits in a list, since it may be deeper than calls
// can be, and each row of Kids is gone through once, since it may stand within itself, or in many places.
func (c checker) expr(mod int, e api.Expr) api.Errno {
	left, met := []api.Expr{e}, map[row]bool{}
	for len(left) > 0 {
		next := left[len(left)-1]
		left = left[:len(left)-1]
		if err := c.itself(mod, next); err != api.OK {
			return err
		}
		if len(next.Kids) == 0 || met[row{&next.Kids[0], len(next.Kids)}] {
			continue
		}
		met[row{&next.Kids[0], len(next.Kids)}] = true
		for _, kid := range slices.Backward(next.Kids) {
			left = append(left, kid)
		}
	}
	return api.OK
}

// itself is what is wrong with an expression, but for its Kids.
func (c checker) itself(mod int, e api.Expr) api.Errno {
	if n, ok := c.takes[e.Op]; !ok || n != len(e.Kids) {
		return api.ErrArg
	}
	switch e.Op {
	case api.Lit:
		if c.lacksParam(mod, e.Wid, e.Val) {
			return api.ErrParam
		}
	case api.Slice:
		if c.lacksParam(mod, e.Hi, e.Lo) {
			return api.ErrParam
		}
	case api.Read:
		return wanted(c.finders[mod](e.Name), isMem)
	case api.Ref:
		return c.ref(mod, e.Name)
	}
	return api.OK
}

func (c checker) ref(mod int, name string) api.Errno {
	inst, port, dotted := strings.Cut(name, ".")
	if !dotted {
		return wanted(c.finders[mod](name), isIn, isWire, isReg)
	}
	p := c.finders[mod](inst)
	if p.kind != isInst {
		return api.ErrNone
	}
	of, ok := c.first[c.modules[mod].Items[p.at].Mod]
	if !ok || c.finders[of](port).kind != isOut {
		return api.ErrNone
	}
	return api.OK
}
