package elab_test

import (
	"math/rand"
	"reflect"
	"slices"
	"strconv"

	"proofmark/api"
)

// maker makes designs without faults, from one row of chances.
type maker struct{ *rand.Rand }

func newMaker(seed int64) maker { return maker{rand.New(rand.NewSource(seed))} }

func pick[T any](r maker, l ...T) T { return l[r.Intn(len(l))] }

// signals are names by their widths, which hang on the parameters of the module: whatever those are, from 1 on, all fits.
type signals map[api.Dim][]string

func (s signals) add(w api.Dim, name string) { s[w] = append(s[w], name) }

// builder makes a module, of modules that stand ahead of it.
type builder struct {
	maker
	ahead []api.Module
	m     api.Module
	all   signals // what may be in a Past, in a Next, in a Put, in a property
	free  signals // of these those that hang on nothing that is not made so far
	mems  signals
	count int
}

func (b *builder) name(kind string) string {
	b.count++
	return kind + strconv.Itoa(b.count)
}

// some is any width.
func (b *builder) some() api.Dim {
	if len(b.m.Params) > 0 && b.Intn(2) == 0 {
		return api.Dim{Name: pick(b.maker, b.m.Params...), N: pick(b.maker, 0, 0, 1, 2)}
	}
	return api.Dim{N: pick(b.maker, 1, 1, 2, 3, 4, 5)}
}

// least is the least number that a dim may be.
func least(d api.Dim) int {
	if d.Name == "" {
		return d.N
	}
	return d.N + 1
}

func of(op int, kids ...api.Expr) api.Expr { return api.Expr{Op: op, Kids: kids} }

// lit is a literal, which has a name or a number as its width, not both.
func (b *builder) lit(w api.Dim) api.Expr {
	if w.Name != "" && w.N > 0 {
		return of(api.Cat, b.lit(api.Dim{Name: w.Name}), b.lit(api.Dim{N: w.N}))
	}
	val := api.Dim{N: b.Intn(1 << min(least(w), 5))}
	if w.Name != "" && b.Intn(2) == 0 {
		val = w
	}
	return api.Expr{Op: api.Lit, Wid: w, Val: val}
}

func (b *builder) leaf(w api.Dim, may signals) api.Expr {
	if l := may[w]; len(l) > 0 && b.Intn(6) > 0 {
		return api.Expr{Op: api.Ref, Name: pick(b.maker, l...)}
	}
	return b.lit(w)
}

// expr is w wide, and hangs on these names alone; in a Past it may hang on all.
func (b *builder) expr(w api.Dim, most int, may signals) api.Expr {
	if most <= 0 || b.Intn(6) == 0 {
		return b.leaf(w, may)
	}
	most--
	switch op := 1 + b.Intn(20); op {
	case api.Inv:
		return of(op, b.expr(w, most, may))
	case api.Past:
		return of(op, b.expr(w, most, b.all))
	case api.And, api.Or, api.Xor, api.Add, api.Sub, api.Mul:
		return of(op, b.expr(w, most, may), b.expr(w, most, may))
	case api.Mux:
		return of(op, b.expr(api.Dim{N: 1}, most, may), b.expr(w, most, may), b.expr(w, most, may))
	case api.Cat:
		return b.cat(w, most, may)
	case api.Slice:
		return b.slice(w, most, may)
	case api.Read:
		if l := b.mems[w]; len(l) > 0 {
			return api.Expr{Op: op, Name: pick(b.maker, l...), Kids: []api.Expr{b.expr(b.some(), most, may)}}
		}
	case api.RedOr, api.RedAnd:
		if w == (api.Dim{N: 1}) {
			return of(op, b.expr(b.some(), most, may))
		}
	case api.Eq, api.Ne, api.Lt, api.Le:
		if kid := b.some(); w == (api.Dim{N: 1}) {
			return of(op, b.expr(kid, most, may), b.expr(kid, most, may))
		}
	}
	return b.leaf(w, may)
}

func (b *builder) cat(w api.Dim, most int, may signals) api.Expr {
	if w.N == 0 || least(w) < 2 {
		return b.leaf(w, may)
	}
	part := 1 + b.Intn(w.N)
	if w.Name == "" {
		part = 1 + b.Intn(w.N-1)
	}
	rest := api.Dim{Name: w.Name, N: w.N - part}
	return of(api.Cat, b.expr(rest, most, may), b.expr(api.Dim{N: part}, most, may))
}

func (b *builder) slice(w api.Dim, most int, may signals) api.Expr {
	more := 0
	if w.N < 8 {
		more = b.Intn(4)
	}
	kid, lo := api.Dim{Name: w.Name, N: w.N + more}, api.Dim{N: b.Intn(more + 1)}
	hi := api.Dim{Name: w.Name, N: w.N + lo.N - 1}
	if w.Name == "" && len(b.m.Params) > 0 && w.N < 4 && b.Intn(2) == 0 {
		kid = api.Dim{Name: pick(b.maker, b.m.Params...), N: w.N + more - 1}
	}
	if hi.N < 0 {
		return b.leaf(w, may)
	}
	return api.Expr{Op: api.Slice, Hi: hi, Lo: lo, Kids: []api.Expr{b.expr(kid, most, may)}}
}

func (b *builder) head(params int) {
	for range params {
		b.m.Params = append(b.m.Params, b.name("n"))
	}
	for range b.Intn(5) {
		p := api.Port{In: b.Intn(2) == 0, Name: b.name("i"), Wid: b.some()}
		if p.In {
			b.all.add(p.Wid, p.Name)
			b.free.add(p.Wid, p.Name)
		}
		b.m.Ports = append(b.m.Ports, p)
	}
}

// declare makes an item that others may name.
func (b *builder) declare() {
	it := api.Item{Kind: pick(b.maker, api.Wire, api.Wire, api.Reg, api.Mem, api.Inst, api.Inst), Name: b.name("x")}
	if it.Kind == api.Inst {
		b.instance(it)
		return
	}
	it.Wid = b.some()
	switch it.Kind {
	case api.Wire:
		b.all.add(it.Wid, it.Name)
	case api.Reg:
		it.Val = pick(b.maker, api.Dim{}, api.Dim{N: 1}, it.Wid)
		b.all.add(it.Wid, it.Name)
		b.free.add(it.Wid, it.Name)
	case api.Mem:
		it.Val = api.Dim{N: 1 + b.Intn(4)}
		if len(b.m.Params) > 0 && b.Intn(3) == 0 {
			it.Val.Name = pick(b.maker, b.m.Params...)
		}
		b.mems.add(it.Wid, it.Name)
	}
	b.m.Items = append(b.m.Items, it)
}

func (b *builder) instance(it api.Item) {
	if len(b.ahead) == 0 {
		return
	}
	m := pick(b.maker, b.ahead...)
	it.Mod = m.Name
	args := map[string]api.Dim{}
	for _, name := range m.Params {
		args[name] = api.Dim{N: 1 + b.Intn(4)}
		if len(b.m.Params) > 0 && b.Intn(2) == 0 {
			args[name] = api.Dim{Name: pick(b.maker, b.m.Params...)}
		}
		it.Args = append(it.Args, args[name])
	}
	for _, p := range m.Ports {
		if p.In {
			it.Binds = append(it.Binds, api.Bind{Port: p.Name})
		} else {
			b.all.add(bound(p.Wid, args), it.Name+"."+p.Name)
		}
	}
	b.Shuffle(len(it.Binds), func(i, k int) { it.Binds[i], it.Binds[k] = it.Binds[k], it.Binds[i] })
	b.m.Items = append(b.m.Items, it)
}

// bound is a dim of a module, in the words of who has an instance of it.
func bound(d api.Dim, args map[string]api.Dim) api.Dim {
	return api.Dim{Name: args[d.Name].Name, N: args[d.Name].N + d.N}
}

// use makes items that name others, and properties.
func (b *builder) use() {
	for _, it := range b.m.Items {
		switch it.Kind {
		case api.Reg:
			b.add(api.Next, it.Name, b.Intn(4) > 0)
		case api.Mem:
			b.add(api.Put, it.Name, b.Intn(6) > 0)
			b.add(api.Put, it.Name, b.Intn(2) > 0)
		}
	}
	for _, p := range b.m.Ports {
		b.add(api.Drive, p.Name, !p.In)
	}
	for range b.Intn(3) {
		b.add(pick(b.maker, api.Assert, api.Assume, api.Cover), b.name("p"), true)
	}
}

func (b *builder) add(kind int, name string, is bool) {
	if is {
		b.m.Items = append(b.m.Items, api.Item{Kind: kind, Name: name})
	}
}

func (b *builder) width(name string) api.Dim {
	for _, p := range b.m.Ports {
		if p.Name == name {
			return p.Wid
		}
	}
	i := slices.IndexFunc(b.m.Items, func(it api.Item) bool { return it.Name == name && it.Wid != (api.Dim{}) })
	return b.m.Items[i].Wid
}

// fill gives items their expressions, what is declared first first.
func (b *builder) fill() {
	for i := range b.m.Items {
		it := &b.m.Items[i]
		switch it.Kind {
		case api.Wire:
			it.E = b.expr(it.Wid, b.Intn(4), b.free)
			b.free.add(it.Wid, it.Name)
		case api.Inst:
			b.bind(it)
		case api.Next, api.Drive:
			it.E = b.expr(b.width(it.Name), b.Intn(4), b.all)
		case api.Put:
			it.At, it.E, it.If = b.expr(b.some(), b.Intn(3), b.all), b.expr(b.width(it.Name), b.Intn(3), b.all), b.expr(api.Dim{N: 1}, b.Intn(3), b.all)
		case api.Assert, api.Assume, api.Cover:
			it.E = b.expr(api.Dim{N: 1}, b.Intn(5), b.all)
		}
	}
}

func (b *builder) bind(it *api.Item) {
	m := b.ahead[slices.IndexFunc(b.ahead, func(m api.Module) bool { return m.Name == it.Mod })]
	args := map[string]api.Dim{}
	for i, name := range m.Params {
		args[name] = it.Args[i]
	}
	for k, bind := range it.Binds {
		for _, p := range m.Ports {
			if p.Name == bind.Port {
				it.Binds[k].E = b.expr(bound(p.Wid, args), b.Intn(3), b.free)
			}
		}
	}
	for _, p := range m.Ports {
		if !p.In {
			b.free.add(bound(p.Wid, args), it.Name+"."+p.Name)
		}
	}
}

func (r maker) design() api.Design {
	var d api.Design
	most := 1 + r.Intn(4)
	for i := range most {
		b := builder{maker: r, ahead: d.Modules, m: api.Module{Name: "m" + strconv.Itoa(i)}, all: signals{}, free: signals{}, mems: signals{}}
		params := r.Intn(3)
		if i == most-1 {
			params = 0
		}
		b.head(params)
		for range r.Intn(8) {
			b.declare()
		}
		b.use()
		b.fill()
		r.shuffle(b.m.Items)
		d.Modules = append(d.Modules, b.m)
	}
	return d
}

func (r maker) shuffle(l []api.Item) {
	r.Shuffle(len(l), func(i, k int) { l[i], l[k] = l[k], l[i] })
}

// fields are all texts, numbers and rows of a design, wherever they stand.
func fields(v reflect.Value, l []reflect.Value) []reflect.Value {
	switch v.Kind() {
	case reflect.Struct:
		for i := range v.NumField() {
			l = fields(v.Field(i), l)
		}
	case reflect.Slice:
		l = append(l, v)
		for i := range v.Len() {
			l = fields(v.Index(i), l)
		}
	default:
		l = append(l, v)
	}
	return l
}

// spoil changes something of a design, whatever it is.
func (r maker) spoil(d *api.Design) {
	all := fields(reflect.ValueOf(d).Elem(), nil)
	switch v := pick(r, all...); v.Kind() {
	case reflect.String:
		v.SetString(r.text(all))
	case reflect.Int:
		v.SetInt(pick(r, v.Int()+1, v.Int()-1, 0, int64(r.Intn(24)), -1, 1<<40))
	case reflect.Bool:
		v.SetBool(!v.Bool())
	case reflect.Slice:
		r.spoilRow(v)
	}
}

// bend changes something of a module so that names are clear still, as it may be: what is driven, what hangs on what, numbers.
func (r maker) bend(d *api.Design) {
	m := &d.Modules[r.Intn(len(d.Modules))]
	if len(m.Items) == 0 {
		return
	}
	i := r.Intn(len(m.Items))
	it := &m.Items[i]
	switch it.Kind {
	case api.Next, api.Drive:
		if r.Intn(2) == 0 {
			m.Items = slices.Delete(m.Items, i, i+1)
		} else {
			m.Items = append(m.Items, *it)
		}
	case api.Wire:
		it.E = of(api.Inv, api.Expr{Op: api.Ref, Name: m.Items[r.Intn(len(m.Items))].Name})
	case api.Inst:
		if len(it.Args) > 0 {
			it.Args[0].N = r.Intn(18)
		}
	case api.Reg, api.Mem:
		it.Wid.N += r.Intn(4)
	}
}

// text is one that stands in a design, or one near it.
func (r maker) text(all []reflect.Value) string {
	for {
		if v := pick(r, all...); v.Kind() == reflect.String {
			return pick(r, v.String(), v.String(), v.String(), v.String()+".", "zz", "")
		}
	}
}

// spoilRow has a row lose something, or double it.
func (r maker) spoilRow(v reflect.Value) {
	rest := reflect.MakeSlice(v.Type(), 0, 0)
	switch i := r.Intn(v.Len() + 1); {
	case i == v.Len():
		rest = reflect.Append(reflect.AppendSlice(rest, v), reflect.Zero(v.Type().Elem()))
	case r.Intn(2) == 0:
		rest = reflect.AppendSlice(reflect.AppendSlice(rest, v.Slice(0, i)), v.Slice(i+1, v.Len()))
	default:
		rest = reflect.Append(reflect.AppendSlice(rest, v), copied(v.Index(i)))
	}
	v.Set(rest)
}

// copied is a value that shares no row with another one.
func copied(v reflect.Value) reflect.Value {
	c := reflect.New(v.Type()).Elem()
	switch v.Kind() {
	case reflect.Struct:
		for i := range v.NumField() {
			c.Field(i).Set(copied(v.Field(i)))
		}
	case reflect.Slice:
		for i := range v.Len() {
			c.Set(reflect.Append(c, copied(v.Index(i))))
		}
	default:
		c.Set(v)
	}
	return c
}

func copyOf(d api.Design) api.Design { return copied(reflect.ValueOf(d)).Interface().(api.Design) }
