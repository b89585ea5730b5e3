package scope_test

import (
	"math/rand"
	"reflect"
	"strconv"

	"proofmark/api"
)

// maker makes designs, from one row of chances.
type maker struct{ *rand.Rand }

func newMaker(seed int64) maker { return maker{rand.New(rand.NewSource(seed))} }

func pick[T any](r maker, l ...T) T { return l[r.Intn(len(l))] }

// clear makes a module without faults, of modules that stand ahead of it.
type clear struct {
	maker
	ahead  []api.Module
	m      api.Module
	values []string // what a Ref may be
	mems   []string
	count  int
}

func (c *clear) name(kind string) string {
	c.count++
	return kind + strconv.Itoa(c.count)
}

func (c *clear) dim() api.Dim {
	if len(c.m.Params) == 0 || c.Intn(2) == 0 {
		return api.Dim{N: c.Intn(20)}
	}
	return api.Dim{Name: pick(c.maker, c.m.Params...), N: c.Intn(3)}
}

func (c *clear) expr(most int) api.Expr {
	op := 1 + c.Intn(20)
	if most == 0 || c.Intn(4) == 0 {
		op = pick(c.maker, api.Lit, api.Ref)
	}
	if op == api.Ref && len(c.values) == 0 || op == api.Read && len(c.mems) == 0 {
		op = api.Lit
	}
	e := api.Expr{Op: op, Val: c.dim(), Wid: c.dim(), Hi: c.dim(), Lo: c.dim()}
	switch op {
	case api.Ref:
		e.Name = pick(c.maker, c.values...)
	case api.Read:
		e.Name = pick(c.maker, c.mems...)
	}
	for range taken[op] {
		e.Kids = append(e.Kids, c.expr(most-1))
	}
	return e
}

func (c *clear) head(params int) {
	for range params {
		c.m.Params = append(c.m.Params, c.name("n"))
	}
	for range c.Intn(5) {
		p := api.Port{In: c.Intn(2) == 0, Name: c.name("i"), Wid: c.dim()}
		if p.In {
			c.values = append(c.values, p.Name)
		}
		c.m.Ports = append(c.m.Ports, p)
	}
}

// declare makes an item that others may name; what it hangs on comes later.
func (c *clear) declare() {
	it := api.Item{Kind: pick(c.maker, api.Wire, api.Reg, api.Mem, api.Inst), Name: c.name("x")}
	if it.Kind == api.Inst && len(c.ahead) == 0 {
		it.Kind = api.Wire
	}
	switch it.Kind {
	case api.Wire, api.Reg:
		it.Wid, it.Val = c.dim(), c.dim()
		c.values = append(c.values, it.Name)
	case api.Mem:
		it.Wid, it.Val = c.dim(), c.dim()
		c.mems = append(c.mems, it.Name)
	case api.Inst:
		of := pick(c.maker, c.ahead...)
		it.Mod = of.Name
		for range of.Params {
			it.Args = append(it.Args, c.dim())
		}
		for _, p := range of.Ports {
			if p.In {
				it.Binds = append(it.Binds, api.Bind{Port: p.Name})
			} else {
				c.values = append(c.values, it.Name+"."+p.Name)
			}
		}
		c.Shuffle(len(it.Binds), func(i, k int) { it.Binds[i], it.Binds[k] = it.Binds[k], it.Binds[i] })
	}
	c.m.Items = append(c.m.Items, it)
}

// use makes an item that names another one, or a property.
func (c *clear) use() {
	for _, it := range c.m.Items {
		if c.Intn(2) == 0 {
			continue
		}
		switch it.Kind {
		case api.Reg:
			c.m.Items = append(c.m.Items, api.Item{Kind: api.Next, Name: it.Name})
		case api.Mem:
			c.m.Items = append(c.m.Items, api.Item{Kind: api.Put, Name: it.Name})
		}
	}
	for _, p := range c.m.Ports {
		if !p.In {
			c.m.Items = append(c.m.Items, api.Item{Kind: api.Drive, Name: p.Name})
		}
	}
	for range c.Intn(3) {
		c.m.Items = append(c.m.Items, api.Item{Kind: pick(c.maker, api.Assert, api.Assume, api.Cover), Name: c.name("p")})
	}
}

func (c *clear) fill() {
	for i := range c.m.Items {
		it := &c.m.Items[i]
		for k := range it.Binds {
			it.Binds[k].E = c.expr(c.Intn(3))
		}
		it.E, it.At, it.If = c.expr(c.Intn(4)), c.expr(c.Intn(3)), c.expr(c.Intn(3))
	}
}

func (r maker) module(name string, ahead []api.Module, params int) api.Module {
	c := clear{maker: r, ahead: ahead, m: api.Module{Name: name}}
	c.head(params)
	for range r.Intn(7) {
		c.declare()
	}
	c.use()
	c.fill()
	r.shuffle(c.m.Items)
	return c.m
}

func (r maker) shuffle(l []api.Item) {
	r.Shuffle(len(l), func(i, k int) { l[i], l[k] = l[k], l[i] })
}

// design has no faults.
func (r maker) design() api.Design {
	var l []api.Module
	most := 1 + r.Intn(4)
	for i := range most {
		params := 0
		if i < most-1 {
			params = r.Intn(3)
		}
		l = append(l, r.module("m"+strconv.Itoa(i), l, params))
	}
	return api.Design{Modules: l}
}

// fields are all texts, numbers and rows of a design, wherever they stand.
func fields(v reflect.Value, l []reflect.Value) []reflect.Value {
	switch v.Kind() {
	case reflect.Struct:
		for i := range v.NumField() {
			l = fields(v.Field(i), l)
		}
	case reflect.Slice:
		l = append(l, v)
		for i := range v.Len() {
			l = fields(v.Index(i), l)
		}
	default:
		l = append(l, v)
	}
	return l
}

func fieldsOf(d *api.Design) []reflect.Value { return fields(reflect.ValueOf(d).Elem(), nil) }

// spoil changes a field: a text becomes another one of the design, or one near it; a row loses, or doubles, or swaps.
func (r maker) spoil(v reflect.Value, texts []string) {
	switch v.Kind() {
	case reflect.String:
		s := pick(r, texts...)
		v.SetString(pick(r, s, s, s, s, "", "zz", s+"."+pick(r, texts...), "."+s, s+"."))
	case reflect.Int:
		v.SetInt(pick(r, v.Int()+1, v.Int()-1, 0, int64(r.Intn(24)), -1, 1<<40))
	case reflect.Bool:
		v.SetBool(!v.Bool())
	case reflect.Slice:
		r.spoilRow(v)
	}
}

func (r maker) spoilRow(v reflect.Value) {
	if v.Len() == 0 {
		v.Set(reflect.Append(v, reflect.Zero(v.Type().Elem())))
		return
	}
	i, k := r.Intn(v.Len()), r.Intn(v.Len())
	rest := reflect.MakeSlice(v.Type(), 0, 0)
	switch r.Intn(3) {
	case 0:
		rest = reflect.AppendSlice(reflect.AppendSlice(rest, v.Slice(0, i)), v.Slice(i+1, v.Len()))
	case 1:
		rest = reflect.Append(reflect.AppendSlice(rest, v), copied(v.Index(i)))
	case 2:
		rest = reflect.AppendSlice(rest, v)
		a, b := copied(rest.Index(i)), copied(rest.Index(k))
		rest.Index(i).Set(b)
		rest.Index(k).Set(a)
	}
	v.Set(rest)
}

// copied is a value that shares no row with another one.
func copied(v reflect.Value) reflect.Value {
	c := reflect.New(v.Type()).Elem()
	switch v.Kind() {
	case reflect.Struct:
		for i := range v.NumField() {
			c.Field(i).Set(copied(v.Field(i)))
		}
	case reflect.Slice:
		for i := range v.Len() {
			c.Set(reflect.Append(c, copied(v.Index(i))))
		}
	default:
		c.Set(v)
	}
	return c
}

func copyOf(d api.Design) api.Design { return copied(reflect.ValueOf(d)).Interface().(api.Design) }

// textsOf are all texts of a design.
func textsOf(d *api.Design) []string {
	l := []string{"zz"}
	for _, v := range fieldsOf(d) {
		if v.Kind() == reflect.String {
			l = append(l, v.String())
		}
	}
	return l
}
