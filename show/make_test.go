package show_test

import (
	"math/rand"
	"reflect"
	"strings"

	"proofmark/api"
)

// maker makes right designs by the forms, from one row of chances.
type maker struct{ *rand.Rand }

func newMaker(seed int64) maker { return maker{rand.New(rand.NewSource(seed))} }

func one[T any](r maker, l ...T) T { return l[r.Intn(len(l))] }

// some is a row of at most so many, more often a short one.
func some[T any](r maker, most int, make func() T) []T {
	var l []T
	for range min(r.Intn(most+1), r.Intn(most+1)) {
		l = append(l, make())
	}
	return l
}

func (r maker) name() string {
	return one(r, "a", "b", "_", "x1", "Q", "at_", "IN", "module2", "w_0", "zz")
}

func (r maker) dim() api.Dim {
	return one(r, api.Dim{}, api.Dim{N: 1}, api.Dim{N: 65535}, api.Dim{Name: r.name()},
		api.Dim{Name: r.name(), N: 3}, api.Dim{Name: r.name(), N: 65535})
}

func (r maker) plainDim() api.Dim {
	d := r.dim()
	if d.Name != "" {
		d.N = 0
	}
	return d
}

// expr has at most so many exprs above its leaves, so that it is never deeper than 8 where there are 8 of them.
func (r maker) expr(most int) api.Expr {
	if most == 0 || r.Intn(6) == 0 {
		op := one(r, api.Lit, api.Ref)
		return fill(r, api.Expr{Op: op}, exprForms[op], 0)
	}
	op := 1 + r.Intn(20)
	return fill(r, api.Expr{Op: op}, exprForms[op], most-1)
}

func (r maker) item(most int) api.Item {
	kind := 1 + r.Intn(10)
	return fill(r, api.Item{Kind: kind}, itemForms[kind], most)
}

func (r maker) module() api.Module { return fill(r, api.Module{}, moduleForm, 0) }

func (r maker) design(modules int) api.Design {
	return api.Design{Modules: some(r, modules, r.module)}
}

// field is something right for a letter of a form.
func (r maker) field(letter byte, most int) any {
	switch letter {
	case 'n', 'M', 'o':
		return r.name()
	case 'r':
		return one(r, r.name(), r.name()+"."+r.name())
	case 'w', 'v':
		return r.plainDim()
	case 'W', 'V', 'H', 'L':
		return r.dim()
	case 'E', 'A', 'I':
		return r.expr(r.Intn(9))
	case '<':
		return some(r, 4, r.dim)
	case 'P':
		return some(r, 4, r.name)
	case 'p':
		return some(r, 16, func() api.Port { return api.Port{In: r.Intn(2) == 0, Name: r.name(), Wid: r.dim()} })
	case 'B':
		return some(r, 6, func() api.Bind { return fill(r, api.Bind{}, bindForm, most) })
	case 'i':
		return some(r, 12, func() api.Item { return r.item(most) })
	}
	panic("no such field")
}

// fill sets the fields that a form names, and as many Kids.
func fill[T any](r maker, x T, form string, most int) T {
	v := reflect.ValueOf(&x).Elem()
	for i := range len(form) {
		if form[i] == '$' {
			v.FieldByName(fieldOf[form[i+1]]).Set(reflect.ValueOf(r.field(form[i+1], most)))
		}
	}
	if n := strings.Count(form, "@"); n > 0 {
		kids := make([]api.Expr, n)
		for i := range kids {
			kids[i] = r.expr(most / n)
			most -= most / n
		}
		v.FieldByName("Kids").Set(reflect.ValueOf(kids))
	}
	return x
}

// places are all numbers, names, bools and rows within a value.
func places(v reflect.Value, l []reflect.Value) []reflect.Value {
	switch v.Kind() {
	case reflect.Struct:
		for i := range v.NumField() {
			l = places(v.Field(i), l)
		}
		return l
	case reflect.Slice:
		for i := range v.Len() {
			l = places(v.Index(i), l)
		}
	}
	return append(l, v)
}

func placesOf(d *api.Design) []reflect.Value { return places(reflect.ValueOf(d).Elem(), nil) }

var oddNumbers = []int64{-1 << 63, -65536, -1, 0, 1, 2, 3, 7, 10, 11, 16, 18, 20, 21, 22, 23, 65535, 65536, 1<<63 - 1}

var oddNames = []string{"", "a", "q", "a.b", "a.b.c", ".", "a.", ".a", "wire", "at", "a.in", "if.a", " a", "a ", "a\n", "a//", "//",
	"a b", "1", "1a", "a-b", "é", "aé", "\x00", "a\x00", "a+1", "(a)", "'", "_", "In"}

// spoil changes what stands at a place, to something that may be right there or not.
func (r maker) spoil(v reflect.Value) {
	switch v.Kind() {
	case reflect.Bool:
		v.SetBool(!v.Bool())
	case reflect.Int:
		v.SetInt(one(r, oddNumbers...))
	case reflect.String:
		v.SetString(one(r, oddNames...))
	case reflect.Slice:
		switch n := v.Len(); {
		case n == 0:
			v.Set(reflect.MakeSlice(v.Type(), r.Intn(2), 1))
		case r.Intn(2) == 0:
			v.Set(v.Slice(0, n-1))
		default:
			v.Set(reflect.Append(v.Slice3(0, n, n), v.Index(r.Intn(n))))
		}
	}
}
