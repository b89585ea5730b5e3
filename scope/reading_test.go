package scope_test

import (
	"strings"

	"proofmark/api"
)

// A second reading of E1 to E4, in the document's own shape: each rule is a row of what may be wrong, in the order in
// which its words name it, told by going through the design anew each time.

// rule is an error, and whether it applies.
type rule struct {
	err     api.Errno
	applies func() bool
}

func firstOf(rules ...rule) api.Errno {
	for _, r := range rules {
		if r.applies() {
			return r.err
		}
	}
	return api.OK
}

// entry is a name of a module: what Kind tells of it, 0 if it is a property's.
type entry struct {
	name     string
	kind, at int
}

func (e entry) head() bool { return e.kind >= 1 && e.kind <= 3 }

var itemKinds = map[int]int{api.Wire: 4, api.Reg: 5, api.Mem: 6, api.Inst: 7, api.Assert: 0, api.Assume: 0, api.Cover: 0}

// entries are a module's NAMES, in order.
func entries(m api.Module) []entry {
	var l []entry
	for i, name := range m.Params {
		l = append(l, entry{name, 1, i})
	}
	for i, p := range m.Ports {
		l = append(l, entry{p.Name, map[bool]int{true: 2, false: 3}[p.In], i})
	}
	for i, it := range m.Items {
		if kind, ok := itemKinds[it.Kind]; ok {
			l = append(l, entry{it.Name, kind, i})
		}
	}
	return l
}

func readKind(m api.Module, name string) (int, int) {
	for _, e := range entries(m) {
		if e.name == name && e.kind != 0 {
			return e.kind, e.at
		}
	}
	return 0, 0
}

func kindOf(m api.Module, name string) int {
	kind, _ := readKind(m, name)
	return kind
}

// moduleOf is where the module of a name stands, or -1.
func moduleOf(d api.Design, name string) int {
	for i, m := range d.Modules {
		if m.Name == name {
			return i
		}
	}
	return -1
}

func noParams(m api.Module, l ...api.Dim) bool {
	for _, d := range l {
		ok := d.Name == ""
		for _, p := range m.Params {
			ok = ok || p == d.Name
		}
		if !ok {
			return true
		}
	}
	return false
}

func readModule(d api.Design, at int) api.Errno {
	m := d.Modules[at]
	return firstOf(
		rule{api.ErrTwice, func() bool { return moduleOf(d, m.Name) < at }},
		rule{api.ErrTwice, func() bool {
			l := entries(api.Module{Params: m.Params, Ports: m.Ports})
			for i := range l {
				for k := range i {
					if l[k].name == l[i].name {
						return true
					}
				}
			}
			return false
		}},
		rule{api.ErrArg, func() bool { return at+1 == len(d.Modules) && len(m.Params) != 0 }},
		rule{api.ErrParam, func() bool {
			for _, p := range m.Ports {
				if noParams(m, p.Wid) {
					return true
				}
			}
			return false
		}},
	)
}

func readTwice(m api.Module, at int) bool {
	if _, ok := itemKinds[m.Items[at].Kind]; !ok {
		return false
	}
	for _, e := range entries(m) {
		if e.name == m.Items[at].Name && (e.head() || e.at < at) {
			return true
		}
	}
	return false
}

func readInst(d api.Design, at int, it api.Item) api.Errno {
	mod := moduleOf(d, it.Mod)
	return firstOf(
		rule{api.ErrNone, func() bool { return mod < 0 }},
		rule{api.ErrLoop, func() bool { return mod >= at }},
		rule{api.ErrArg, func() bool { return len(it.Args) != len(d.Modules[mod].Params) }},
		rule{api.ErrPort, func() bool {
			ins := map[string]bool{}
			count := 0
			for _, p := range d.Modules[mod].Ports {
				if p.In {
					count++
					ins[p.Name] = true
				}
			}
			binds := map[string]bool{}
			strange := false
			for _, b := range it.Binds {
				strange = strange || binds[b.Port] || !ins[b.Port]
				binds[b.Port] = true
			}
			return strange || len(it.Binds) != count
		}},
	)
}

// readFields are an item's own Dims, and its expressions, in order.
func readFields(it api.Item) ([]api.Dim, []api.Expr) {
	var bound []api.Expr
	for _, b := range it.Binds {
		bound = append(bound, b.E)
	}
	switch it.Kind {
	case api.Wire:
		return []api.Dim{it.Wid}, []api.Expr{it.E}
	case api.Reg:
		return []api.Dim{it.Wid, it.Val}, nil
	case api.Mem:
		return []api.Dim{it.Val, it.Wid}, nil
	case api.Inst:
		return it.Args, bound
	case api.Put:
		return nil, []api.Expr{it.At, it.E, it.If}
	}
	return nil, []api.Expr{it.E}
}

func readItem(d api.Design, mod, at int) api.Errno {
	m := d.Modules[mod]
	it := m.Items[at]
	aim := map[int]int{api.Next: 5, api.Drive: 3, api.Put: 6}[it.Kind]
	kind := kindOf(m, it.Name)
	inst := api.OK
	if it.Kind == api.Inst {
		inst = readInst(d, mod, it)
	}
	own, exprs := readFields(it)
	err := firstOf(
		rule{api.ErrTwice, func() bool { return readTwice(m, at) }},
		rule{inst, func() bool { return inst != api.OK }},
		rule{api.ErrNone, func() bool { return aim != 0 && kind == 0 }},
		rule{api.ErrKind, func() bool { return aim != 0 && kind != aim }},
		rule{api.ErrKind, func() bool { return it.Kind < api.Wire || it.Kind > api.Cover }},
		rule{api.ErrParam, func() bool { return noParams(m, own...) }},
	)
	for _, e := range exprs {
		if err == api.OK {
			err = readExpr(d, m, e)
		}
	}
	return err
}

func readKids(e api.Expr) bool {
	switch e.Op {
	case api.Lit, api.Ref:
		return len(e.Kids) == 0
	case api.Inv, api.RedOr, api.RedAnd, api.Slice, api.Read, api.Past:
		return len(e.Kids) == 1
	case api.Mux:
		return len(e.Kids) == 3
	}
	return e.Op >= api.Lit && e.Op <= api.Past && len(e.Kids) == 2
}

func readPort(d api.Design, m api.Module, name string) bool {
	l := strings.SplitN(name, ".", 2)
	kind, at := readKind(m, l[0])
	if kind != 7 {
		return false
	}
	mod := moduleOf(d, m.Items[at].Mod)
	return mod >= 0 && kindOf(d.Modules[mod], l[1]) == 3
}

func readExpr(d api.Design, m api.Module, e api.Expr) api.Errno {
	kind := kindOf(m, e.Name)
	dot := strings.Contains(e.Name, ".")
	plain := e.Op == api.Ref && !dot
	err := firstOf(
		rule{api.ErrArg, func() bool { return !readKids(e) }},
		rule{api.ErrParam, func() bool { return e.Op == api.Lit && noParams(m, e.Wid, e.Val) }},
		rule{api.ErrParam, func() bool { return e.Op == api.Slice && noParams(m, e.Hi, e.Lo) }},
		rule{api.ErrNone, func() bool { return (e.Op == api.Read || plain) && kind == 0 }},
		rule{api.ErrKind, func() bool { return e.Op == api.Read && kind != 6 }},
		rule{api.ErrKind, func() bool { return plain && kind != 2 && kind != 4 && kind != 5 }},
		rule{api.ErrNone, func() bool { return e.Op == api.Ref && dot && !readPort(d, m, e.Name) }},
	)
	for _, kid := range e.Kids {
		if err == api.OK {
			err = readExpr(d, m, kid)
		}
	}
	return err
}

func readCheck(d api.Design) []api.Fault {
	var l []api.Fault
	tell := func(err api.Errno, mod, item int) {
		if err != api.OK {
			l = append(l, api.Fault{Err: err, Mod: mod, Item: item})
		}
	}
	if len(d.Modules) == 0 {
		tell(api.ErrNone, 0, -1)
	}
	for i, m := range d.Modules {
		tell(readModule(d, i), i, -1)
		for k := range m.Items {
			tell(readItem(d, i, k), i, k)
		}
	}
	return l
}
