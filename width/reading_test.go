package width_test

import (
	"strings"

	"proofmark/api"
)

// A second reading of F1 and F2, from dims and names on: an answer is a number, or an error.
type answer struct {
	n   int
	err api.Errno
}

func (a answer) ok() bool { return a.err == api.OK }

func fault(err api.Errno) answer { return answer{err: err} }

// firstOf is the first error of some answers, or how it goes on where there is none.
func firstOf(l []answer, then func() answer) answer {
	for _, a := range l {
		if !a.ok() {
			return a
		}
	}
	return then()
}

func unless(good bool, err api.Errno, n int) answer {
	if good {
		return answer{n: n}
	}
	return fault(err)
}

// reader knows of a module what its parameters are.
type reader struct {
	d    api.Design
	m    api.Module
	vals map[string]int
}

func newReader(d api.Design, m api.Module, vals []int) reader {
	r := reader{d, m, map[string]int{}}
	for i, name := range m.Params {
		r.vals[name] = vals[i]
	}
	return r
}

func (r reader) value(d api.Dim) answer {
	n := d.N
	if d.Name != "" {
		n += r.vals[d.Name]
	}
	return unless(d.N >= 0 && d.N <= 65535 && n >= 0 && n <= 65535, api.ErrRange, n)
}

func (r reader) width(d api.Dim) answer {
	a := r.value(d)
	return firstOf([]answer{a}, func() answer { return unless(a.n >= 1 && a.n <= 16, api.ErrRange, a.n) })
}

// instance is the reader within one, or an error of its Args.
func (r reader) instance(it api.Item) (reader, answer) {
	var vals []int
	for _, d := range it.Args {
		a := r.value(d)
		if !a.ok() {
			return reader{}, a
		}
		vals = append(vals, a.n)
	}
	for _, m := range r.d.Modules {
		if m.Name == it.Mod {
			return newReader(r.d, m, vals), answer{}
		}
	}
	panic("no such module: " + it.Mod)
}

func (r reader) signal(name string) answer {
	for _, p := range r.m.Ports {
		if p.Name == name {
			return r.width(p.Wid)
		}
	}
	for _, it := range r.m.Items {
		switch it.Kind {
		case api.Wire, api.Reg, api.Mem:
			if it.Name == name {
				return r.width(it.Wid)
			}
		case api.Inst:
			if port, ok := strings.CutPrefix(name, it.Name+"."); ok {
				in, err := r.instance(it)
				if !err.ok() {
					return err
				}
				return in.signal(port)
			}
		}
	}
	panic("no such signal: " + name)
}

func (r reader) expr(e api.Expr) answer {
	var kids []answer
	var w [3]int
	for i, kid := range e.Kids {
		kids = append(kids, r.expr(kid))
		w[i] = kids[i].n
	}
	switch e.Op {
	case api.Lit:
		kids = []answer{r.width(e.Wid), r.value(e.Val)}
		return firstOf(kids, func() answer { return unless(kids[1].n>>kids[0].n == 0, api.ErrRange, kids[0].n) })
	case api.Ref:
		return r.signal(e.Name)
	case api.Read:
		return firstOf(kids, func() answer { return r.signal(e.Name) })
	case api.RedOr, api.RedAnd:
		return firstOf(kids, func() answer { return answer{n: 1} })
	case api.Inv, api.Past:
		return kids[0]
	case api.Mux:
		return firstOf(kids, func() answer { return unless(w[0] == 1 && w[1] == w[2], api.ErrWidth, w[1]) })
	case api.Cat:
		return firstOf(kids, func() answer { return unless(w[0]+w[1] <= 16, api.ErrWidth, w[0]+w[1]) })
	case api.Slice:
		hi, lo := r.value(e.Hi), r.value(e.Lo)
		kids = append(kids, hi, lo)
		return firstOf(kids, func() answer { return unless(lo.n <= hi.n && hi.n < w[0], api.ErrWidth, hi.n-lo.n+1) })
	case api.Eq, api.Ne, api.Lt, api.Le:
		return firstOf(kids, func() answer { return unless(w[0] == w[1], api.ErrWidth, 1) })
	}
	return firstOf(kids, func() answer { return unless(w[0] == w[1], api.ErrWidth, w[0]) })
}

func alikeOf(a, b answer) answer {
	return firstOf([]answer{a, b}, func() answer { return unless(a.n == b.n, api.ErrWidth, 0) })
}

func (r reader) item(it api.Item) answer {
	switch it.Kind {
	case api.Wire:
		return alikeOf(r.width(it.Wid), r.expr(it.E))
	case api.Reg:
		w, n := r.width(it.Wid), r.value(it.Val)
		return firstOf([]answer{w, n}, func() answer { return unless(n.n>>w.n == 0, api.ErrRange, 0) })
	case api.Mem:
		w, n := r.width(it.Wid), r.value(it.Val)
		return firstOf([]answer{w, n}, func() answer { return unless(n.n > 0 && n.n < 9, api.ErrRange, 0) })
	case api.Next, api.Drive:
		return alikeOf(r.signal(it.Name), r.expr(it.E))
	case api.Put:
		l := []answer{r.signal(it.Name), r.expr(it.At), r.expr(it.E), r.expr(it.If)}
		return firstOf(l, func() answer { return unless(l[0].n == l[2].n && l[3].n == 1, api.ErrWidth, 0) })
	case api.Inst:
		in, err := r.instance(it)
		if !err.ok() {
			return err
		}
		var l []answer
		for _, b := range it.Binds {
			l = append(l, alikeOf(in.signal(b.Port), r.expr(b.E)))
		}
		return firstOf(l, func() answer { return answer{} })
	}
	return alikeOf(answer{n: 1}, r.expr(it.E))
}

func readOf(d api.Design, module int, vals []int, e api.Expr) (int, api.Errno) {
	a := newReader(d, d.Modules[module], vals).expr(e)
	return a.n, a.err
}

func readCheck(d api.Design, module int, vals []int) []api.Fault {
	r := newReader(d, d.Modules[module], vals)
	var faults []api.Fault
	var ports []answer
	for _, p := range r.m.Ports {
		ports = append(ports, r.width(p.Wid))
	}
	if a := firstOf(ports, func() answer { return answer{} }); !a.ok() {
		faults = append(faults, api.Fault{Err: a.err, Mod: module, Item: -1})
	}
	for i, it := range r.m.Items {
		if a := r.item(it); !a.ok() {
			faults = append(faults, api.Fault{Err: a.err, Mod: module, Item: i})
		}
	}
	return faults
}
