package width_test

import (
	"math/rand"
	"reflect"
	"slices"
	"strconv"

	"proofmark/api"
	"proofmark/scope"
	"proofmark/show"
)

// maker makes designs, from one row of chances.
type maker struct{ *rand.Rand }

func newMaker(seed int64) maker { return maker{rand.New(rand.NewSource(seed))} }

func pick[T any](r maker, l ...T) T { return l[r.Intn(len(l))] }

// made is a design, and parameters of each of its modules, of which these have no faults of widths.
type made struct {
	api.Design
	vals [][]int
}

// fitting makes a module whose widths fit, of parameters.
type fitting struct {
	maker
	made
	m     api.Module
	vals  []int
	sigs  map[int][]string // what may be referred to, by its width
	mems  map[int][]string
	count int
}

func (f *fitting) name(kind string) string {
	f.count++
	return kind + strconv.Itoa(f.count)
}

// dim is one that is n, of the parameters.
func (f *fitting) dim(n int) api.Dim {
	if i := f.Intn(len(f.vals) + 1); i < len(f.vals) && f.vals[i] <= n {
		return api.Dim{Name: f.m.Params[i], N: n - f.vals[i]}
	}
	return api.Dim{N: n}
}

// plain has a name, or a number.
func (f *fitting) plain(n int) api.Dim {
	if i := slices.Index(f.vals, n); i >= 0 && f.Intn(2) == 0 {
		return api.Dim{Name: f.m.Params[i]}
	}
	return api.Dim{N: n}
}

func (f *fitting) some() int { return 1 + min(f.Intn(16), f.Intn(16)) }

func (f *fitting) leaf(w int) api.Expr {
	if l := f.sigs[w]; len(l) > 0 && f.Intn(4) > 0 {
		return ref(pick(f.maker, l...))
	}
	return api.Expr{Op: api.Lit, Wid: f.plain(w), Val: f.plain(f.Intn(1 << w))}
}

// expr is w wide, and at most so many deep.
func (f *fitting) expr(w, most int) api.Expr {
	if most == 0 || f.Intn(5) == 0 {
		return f.leaf(w)
	}
	most--
	switch op := 1 + f.Intn(20); op {
	case api.Inv, api.Past:
		return of(op, f.expr(w, most))
	case api.And, api.Or, api.Xor, api.Add, api.Sub, api.Mul:
		return of(op, f.expr(w, most), f.expr(w, most))
	case api.Mux:
		return of(op, f.expr(1, most), f.expr(w, most), f.expr(w, most))
	case api.Slice:
		kid := w + f.Intn(17-w)
		lo := f.Intn(kid - w + 1)
		return cut(f.expr(kid, most), f.dim(lo+w-1), f.dim(lo))
	case api.Read:
		if l := f.mems[w]; len(l) > 0 {
			return api.Expr{Op: op, Name: pick(f.maker, l...), Kids: []api.Expr{f.expr(f.some(), most)}}
		}
	case api.Cat:
		if w > 1 {
			upper := 1 + f.Intn(w-1)
			return of(op, f.expr(upper, most), f.expr(w-upper, most))
		}
	case api.RedOr, api.RedAnd:
		if w == 1 {
			return of(op, f.expr(f.some(), most))
		}
	case api.Eq, api.Ne, api.Lt, api.Le:
		if kid := f.some(); w == 1 {
			return of(op, f.expr(kid, most), f.expr(kid, most))
		}
	}
	return f.leaf(w)
}

func (f *fitting) head(params int) {
	for range params {
		f.m.Params = append(f.m.Params, f.name("n"))
		f.vals = append(f.vals, pick(f.maker, f.Intn(5), f.Intn(17), f.Intn(17), 65535))
	}
	for range f.Intn(6) {
		w := f.some()
		p := api.Port{In: f.Intn(2) == 0, Name: f.name("i"), Wid: f.dim(w)}
		if p.In {
			f.sigs[w] = append(f.sigs[w], p.Name)
		}
		f.m.Ports = append(f.m.Ports, p)
	}
}

// declare makes an item that others may name; its expressions come later.
func (f *fitting) declare() {
	w := f.some()
	it := api.Item{Kind: pick(f.maker, api.Wire, api.Reg, api.Mem, api.Inst), Name: f.name("x"), Wid: f.dim(w)}
	if it.Kind == api.Inst && len(f.Modules) == 0 {
		it.Kind = api.Wire
	}
	switch it.Kind {
	case api.Wire:
		f.sigs[w] = append(f.sigs[w], it.Name)
	case api.Reg:
		it.Val = f.dim(f.Intn(1 << w))
		f.sigs[w] = append(f.sigs[w], it.Name)
	case api.Mem:
		it.Val = f.dim(1 + f.Intn(8))
		f.mems[w] = append(f.mems[w], it.Name)
	case api.Inst:
		it = f.inst(it.Name)
	}
	f.m.Items = append(f.m.Items, it)
}

// inst is one of a module that stands ahead, of the parameters by which that fits.
func (f *fitting) inst(name string) api.Item {
	at := f.Intn(len(f.Modules))
	it := api.Item{Kind: api.Inst, Name: name, Mod: f.Modules[at].Name}
	for _, n := range f.made.vals[at] {
		it.Args = append(it.Args, f.dim(n))
	}
	in := newReader(f.Design, f.Modules[at], f.made.vals[at])
	for _, p := range in.m.Ports {
		if p.In {
			it.Binds = append(it.Binds, api.Bind{Port: p.Name})
		} else if w := in.width(p.Wid); w.ok() {
			f.sigs[w.n] = append(f.sigs[w.n], name+"."+p.Name)
		}
	}
	f.Shuffle(len(it.Binds), func(i, k int) { it.Binds[i], it.Binds[k] = it.Binds[k], it.Binds[i] })
	return it
}

// use makes items that name others, and properties.
func (f *fitting) use() {
	for _, it := range f.m.Items {
		switch it.Kind {
		case api.Reg:
			f.m.Items = append(f.m.Items, api.Item{Kind: api.Next, Name: it.Name})
		case api.Mem:
			f.m.Items = append(f.m.Items, api.Item{Kind: api.Put, Name: it.Name})
		}
	}
	for _, p := range f.m.Ports {
		if !p.In {
			f.m.Items = append(f.m.Items, api.Item{Kind: api.Drive, Name: p.Name})
		}
	}
	for range f.Intn(4) {
		f.m.Items = append(f.m.Items, api.Item{Kind: pick(f.maker, api.Assert, api.Assume, api.Cover), Name: f.name("p")})
	}
}

func (f *fitting) fill() {
	r := newReader(f.Design, f.m, f.vals)
	for i := range f.m.Items {
		it := &f.m.Items[i]
		switch it.Kind {
		case api.Wire, api.Next, api.Drive:
			it.E = f.expr(r.signal(it.Name).n, f.Intn(5))
		case api.Put:
			it.At, it.E, it.If = f.expr(f.some(), f.Intn(3)), f.expr(r.signal(it.Name).n, f.Intn(3)), f.expr(1, f.Intn(3))
		case api.Inst:
			in, _ := r.instance(*it)
			for k, b := range it.Binds {
				it.Binds[k].E = f.expr(in.signal(b.Port).n, f.Intn(3))
			}
		case api.Assert, api.Assume, api.Cover:
			it.E = f.expr(1, f.Intn(6))
		}
	}
}

// design has no faults of names, nor of widths.
func (r maker) design() made {
	var d made
	most := 1 + r.Intn(4)
	for i := range most {
		f := fitting{maker: r, made: d, m: api.Module{Name: "m" + strconv.Itoa(i)}, sigs: map[int][]string{}, mems: map[int][]string{}}
		params := r.Intn(4)
		if i == most-1 {
			params = 0
		}
		f.head(params)
		for range r.Intn(8) {
			f.declare()
		}
		f.use()
		f.fill()
		r.shuffle(f.m.Items)
		d.Modules, d.vals = append(d.Modules, f.m), append(d.vals, f.vals)
	}
	return d
}

func (r maker) shuffle(l []api.Item) {
	r.Shuffle(len(l), func(i, k int) { l[i], l[k] = l[k], l[i] })
}

// spots are all that may be changed in a design without changing its names: dims, ops, rows of Kids.
func spots(v reflect.Value, l []reflect.Value) []reflect.Value {
	switch x := v.Addr().Interface().(type) {
	case *api.Dim:
		return append(l, v)
	case *api.Expr:
		l = append(l, v)
		for i := range x.Kids {
			l = spots(v.FieldByName("Kids").Index(i), l)
		}
	}
	switch v.Kind() {
	case reflect.Struct:
		for i := range v.NumField() {
			if v.Type().Field(i).Name != "Kids" {
				l = spots(v.Field(i), l)
			}
		}
	case reflect.Slice:
		for i := range v.Len() {
			l = spots(v.Index(i), l)
		}
	}
	return l
}

var sameKids = [][]int{
	{api.Inv, api.RedOr, api.RedAnd, api.Past},
	{api.And, api.Or, api.Xor, api.Add, api.Sub, api.Mul, api.Eq, api.Ne, api.Lt, api.Le, api.Cat},
}

// spoil changes one of them, perhaps so that it fits still.
func (r maker) spoil(v reflect.Value, other reflect.Value) {
	switch x := v.Addr().Interface().(type) {
	case *api.Dim:
		x.N = pick(r, x.N+1, max(x.N-1, 0), 0, 16, 17, 65535, r.Intn(20), x.N^1)
	case *api.Expr:
		for _, ops := range sameKids {
			if slices.Contains(ops, x.Op) {
				x.Op = pick(r, ops...)
			}
		}
		if len(x.Kids) > 1 && r.Intn(2) == 0 {
			slices.Reverse(x.Kids)
		}
		if y, ok := other.Addr().Interface().(*api.Expr); ok && r.Intn(2) == 0 {
			*x = copied(reflect.ValueOf(*y)).Interface().(api.Expr)
		}
	}
}

// copied is a value that shares no row with another one.
func copied(v reflect.Value) reflect.Value {
	c := reflect.New(v.Type()).Elem()
	switch v.Kind() {
	case reflect.Struct:
		for i := range v.NumField() {
			c.Field(i).Set(copied(v.Field(i)))
		}
	case reflect.Slice:
		for i := range v.Len() {
			c.Set(reflect.Append(c, copied(v.Index(i))))
		}
	default:
		c.Set(v)
	}
	return c
}

func copyOf(d api.Design) api.Design { return copied(reflect.ValueOf(d)).Interface().(api.Design) }

// spoilt is a design that is spoilt over and over, so that something is said of it still.
func (r maker) spoilt(d api.Design) api.Design {
	for range 6 + r.Intn(20) {
		next := copyOf(d)
		l := spots(reflect.ValueOf(&next).Elem(), nil)
		if len(l) == 0 {
			return d
		}
		r.spoil(pick(r, l...), pick(r, l...))
		if show.Right(next) && len(scope.Check(next)) == 0 {
			d = next
		}
	}
	return d
}
