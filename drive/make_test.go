package drive_test

import (
	"math/rand"
	"reflect"
	"slices"
	"strconv"

	"proofmark/api"
)

// maker makes designs without faults of names, from one row of chances.
type maker struct{ *rand.Rand }

func newMaker(seed int64) maker { return maker{rand.New(rand.NewSource(seed))} }

func pick[T any](r maker, l ...T) T { return l[r.Intn(len(l))] }

// builder makes a module, of modules that stand ahead of it.
type builder struct {
	maker
	ahead  []api.Module
	m      api.Module
	free   []string   // what a Ref may be, and hang on nothing
	values [][]string // of each item that is declared, what a Ref may be, and hang on it
	mems   []string
	loose  int // of how many items of ten it does not matter what they hang on: there may be rings
}

func (b *builder) all() []string {
	l := slices.Clone(b.free)
	for _, names := range b.values {
		l = append(l, names...)
	}
	return l
}

// expr is an expression that hangs on these names alone; a Past may have any.
func (b *builder) expr(most int, may []string) api.Expr {
	op := 1 + b.Intn(20)
	if most == 0 || b.Intn(4) == 0 {
		op = pick(b.maker, api.Lit, api.Ref, api.Ref)
	}
	if op == api.Past {
		may = b.all()
	}
	if op == api.Ref && len(may) == 0 || op == api.Read && len(b.mems) == 0 {
		op = api.Lit
	}
	e := api.Expr{Op: op, Wid: api.Dim{N: 1}}
	switch op {
	case api.Ref:
		e.Name = pick(b.maker, may...)
	case api.Read:
		e.Name = pick(b.maker, b.mems...)
	}
	kids := taken[op]
	if op == api.Past {
		kids = 1
	}
	for range kids {
		e.Kids = append(e.Kids, b.expr(most-1, may))
	}
	return e
}

func (b *builder) head() {
	for i := range b.Intn(5) {
		p := api.Port{In: b.Intn(2) == 0, Name: "i" + strconv.Itoa(i), Wid: api.Dim{N: 1}}
		if p.In {
			b.free = append(b.free, p.Name)
		}
		b.m.Ports = append(b.m.Ports, p)
	}
}

// declare makes an item that others may name.
func (b *builder) declare() {
	it := api.Item{Kind: pick(b.maker, api.Wire, api.Wire, api.Inst, api.Inst, api.Reg, api.Mem), Name: "x" + strconv.Itoa(len(b.m.Items)), Wid: api.Dim{N: 1}}
	if it.Kind == api.Inst && len(b.ahead) == 0 {
		it.Kind = api.Wire
	}
	var names []string
	switch it.Kind {
	case api.Wire:
		names = append(names, it.Name)
	case api.Reg:
		b.free = append(b.free, it.Name)
	case api.Mem:
		it.Val.N = 1
		b.mems = append(b.mems, it.Name)
	case api.Inst:
		of := pick(b.maker, b.ahead...)
		it.Mod = of.Name
		for _, p := range of.Ports {
			if p.In {
				it.Binds = append(it.Binds, api.Bind{Port: p.Name})
			} else {
				names = append(names, it.Name+"."+p.Name)
			}
		}
	}
	b.m.Items = append(b.m.Items, it)
	b.values = append(b.values, names)
}

// use makes items that name others, some of them more than once, and properties.
func (b *builder) use() {
	kinds := map[int]int{api.Reg: api.Next, api.Mem: api.Put}
	for _, it := range b.m.Items {
		if kind, ok := kinds[it.Kind]; ok {
			b.add(kind, it.Name, pick(b.maker, 0, 1, 1, 1, 2, 3))
		}
	}
	for _, p := range b.m.Ports {
		if !p.In {
			b.add(api.Drive, p.Name, pick(b.maker, 0, 1, 1, 1, 1, 1, 1, 2, 3))
		}
	}
	for i := range b.Intn(3) {
		b.add(pick(b.maker, api.Assert, api.Assume, api.Cover), "p"+strconv.Itoa(i), 1)
	}
}

func (b *builder) add(kind int, name string, times int) {
	for range times {
		b.m.Items = append(b.m.Items, api.Item{Kind: kind, Name: name})
	}
}

// fill gives all items their expressions: but for the loose ones they hang on what was declared ahead of them alone.
func (b *builder) fill() {
	may := slices.Clone(b.free)
	for i := range b.m.Items {
		it := &b.m.Items[i]
		on := may
		if b.Intn(10) < b.loose || i >= len(b.values) {
			on = b.all()
		}
		for k := range it.Binds {
			it.Binds[k].E = b.expr(b.Intn(3), on)
		}
		it.E, it.At, it.If = b.expr(b.Intn(4), on), b.expr(b.Intn(3), b.all()), b.expr(b.Intn(3), b.all())
		if i < len(b.values) {
			may = append(may, b.values[i]...)
		}
	}
}

func (r maker) module(name string, ahead []api.Module) api.Module {
	b := builder{maker: r, ahead: ahead, m: api.Module{Name: name}, loose: pick(r, 0, 0, 2, 5, 10, 10)}
	b.head()
	for range r.Intn(12) {
		b.declare()
	}
	b.use()
	b.fill()
	r.shuffle(b.m.Items)
	return b.m
}

func (r maker) shuffle(l []api.Item) {
	r.Shuffle(len(l), func(i, k int) { l[i], l[k] = l[k], l[i] })
}

func (r maker) design() api.Design {
	var l []api.Module
	for i := range 1 + r.Intn(4) {
		l = append(l, r.module("m"+strconv.Itoa(i), l))
	}
	return api.Design{Modules: l}
}

// fields are all texts, numbers and rows of a design, wherever they stand.
func fields(v reflect.Value, l []reflect.Value) []reflect.Value {
	switch v.Kind() {
	case reflect.Struct:
		for i := range v.NumField() {
			l = fields(v.Field(i), l)
		}
	case reflect.Slice:
		l = append(l, v)
		for i := range v.Len() {
			l = fields(v.Index(i), l)
		}
	default:
		l = append(l, v)
	}
	return l
}

// spoil changes something of a design, whatever it is.
func (r maker) spoil(d *api.Design) {
	all := fields(reflect.ValueOf(d).Elem(), nil)
	switch v := pick(r, all...); v.Kind() {
	case reflect.String:
		v.SetString(r.text(all))
	case reflect.Int:
		v.SetInt(pick(r, v.Int()+1, v.Int()-1, 0, int64(r.Intn(24)), -1, 1<<40))
	case reflect.Bool:
		v.SetBool(!v.Bool())
	case reflect.Slice:
		r.spoilRow(v)
	}
}

// text is one that stands in a design, or one near it.
func (r maker) text(all []reflect.Value) string {
	for {
		if v := pick(r, all...); v.Kind() == reflect.String {
			return pick(r, v.String(), v.String(), v.String(), v.String()+".", "."+v.String(), "zz", "")
		}
		if r.Intn(1000) == 0 {
			return "zz"
		}
	}
}

// spoilRow has a row lose something, or double it.
func (r maker) spoilRow(v reflect.Value) {
	rest := reflect.MakeSlice(v.Type(), 0, 0)
	switch i := r.Intn(v.Len() + 1); {
	case i == v.Len():
		rest = reflect.Append(reflect.AppendSlice(rest, v), reflect.Zero(v.Type().Elem()))
	case r.Intn(2) == 0:
		rest = reflect.AppendSlice(reflect.AppendSlice(rest, v.Slice(0, i)), v.Slice(i+1, v.Len()))
	default:
		rest = reflect.Append(reflect.AppendSlice(rest, v), copied(v.Index(i)))
	}
	v.Set(rest)
}

// copied is a value that shares no row with another one.
func copied(v reflect.Value) reflect.Value {
	c := reflect.New(v.Type()).Elem()
	switch v.Kind() {
	case reflect.Struct:
		for i := range v.NumField() {
			c.Field(i).Set(copied(v.Field(i)))
		}
	case reflect.Slice:
		for i := range v.Len() {
			c.Set(reflect.Append(c, copied(v.Index(i))))
		}
	default:
		c.Set(v)
	}
	return c
}

func copyOf(d api.Design) api.Design { return copied(reflect.ValueOf(d)).Interface().(api.Design) }
