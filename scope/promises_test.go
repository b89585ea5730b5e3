package scope_test

import (
	"cmp"
	"reflect"
	"slices"
	"strings"
	"testing"

	"proofmark/api"
	"proofmark/scope"
)

// checkTold looks at P5.1, P5.2 and the rules P2 and P3: the answers are what E1 to E4 say, are the same again, and
// change nothing. It tells whether there are no faults.
func checkTold(t *testing.T, d api.Design) bool {
	t.Helper()
	kept := copyOf(d)
	want := readCheck(d)
	for range 2 {
		if got := scope.Check(d); !slices.Equal(got, want) {
			t.Errorf("P5.1: of %+v Check tells %v; want %v", d, got, want)
		}
	}
	got := scope.Check(d)
	if !slices.IsSortedFunc(got, byPlace) || len(slices.CompactFunc(slices.Clone(got), samePlace)) != len(got) {
		t.Errorf("P5.2: of %+v faults do not rise: %v", d, got)
	}
	names := slices.Compact(slices.Sorted(slices.Values(textsOf(&d))))
	for _, m := range d.Modules {
		for _, name := range names {
			kind, place := readKind(m, name)
			wantKind(t, m, name, kind, place)
		}
	}
	if !reflect.DeepEqual(copyOf(d), kept) {
		t.Errorf("P3: %+v was changed to %+v", kept, d)
	}
	return len(want) == 0
}

func byPlace(a, b api.Fault) int {
	return cmp.Or(cmp.Compare(a.Mod, b.Mod), cmp.Compare(a.Item, b.Item))
}

func samePlace(a, b api.Fault) bool { return byPlace(a, b) == 0 }

// P5.1 to P5.5: made designs without faults.
func TestMadeDesigns(t *testing.T) {
	for seed := range int64(500) {
		r := newMaker(seed)
		d := r.design()
		if !checkTold(t, d) {
			t.Fatalf("%+v has faults: %v", d, scope.Check(d))
		}
		checkClear(t, d)
		checkAhead(t, r, d)
		checkOwn(t, r, d)
	}
}

// P5.1 to P5.4: designs that are spoilt once, or over and over; some of them have no faults still.
func TestSpoiltDesigns(t *testing.T) {
	without := 0
	for seed := range int64(3000) {
		r := newMaker(seed)
		d := copyOf(r.design())
		for range 1 + r.Intn(3)*r.Intn(6) {
			texts := textsOf(&d)
			r.spoil(pick(r, fieldsOf(&d)...), texts)
		}
		if checkTold(t, d) {
			without++
			checkClear(t, d)
			checkAhead(t, r, d)
		}
	}
	if without < 300 || without > 2700 {
		t.Errorf("of 3000 spoilt designs %d have no faults: too few of one kind", without)
	}
}

// checkClear looks at P5.3, name by name.
func checkClear(t *testing.T, d api.Design) {
	t.Helper()
	for i, m := range d.Modules {
		for _, p := range m.Ports {
			clearDims(t, m, p.Wid)
		}
		for _, it := range m.Items {
			own, exprs := readFields(it)
			clearDims(t, m, own...)
			for _, e := range exprs {
				clearExpr(t, d, m, e)
			}
			switch it.Kind {
			case api.Inst:
				clearInst(t, d, i, it)
			case api.Next, api.Drive, api.Put:
				if want := map[int]int{api.Next: 5, api.Drive: 3, api.Put: 6}[it.Kind]; kindOf(m, it.Name) != want {
					t.Errorf("P5.3: %q of %+v is %d, not %d", it.Name, it, kindOf(m, it.Name), want)
				}
			}
		}
	}
}

func clearDims(t *testing.T, m api.Module, l ...api.Dim) {
	t.Helper()
	for _, d := range l {
		if d.Name != "" && !slices.Contains(m.Params, d.Name) {
			t.Errorf("P5.3: %q is no param of %v", d.Name, m.Params)
		}
	}
}

func clearInst(t *testing.T, d api.Design, at int, it api.Item) {
	t.Helper()
	mod := slices.IndexFunc(d.Modules, func(m api.Module) bool { return m.Name == it.Mod })
	if mod < 0 || mod >= at {
		t.Fatalf("P5.3: %q is no module ahead of the one at %d", it.Mod, at)
	}
	var ins, binds []string
	for _, p := range d.Modules[mod].Ports {
		if p.In {
			ins = append(ins, p.Name)
		}
	}
	for _, b := range it.Binds {
		binds = append(binds, b.Port)
	}
	slices.Sort(ins)
	slices.Sort(binds)
	if !slices.Equal(ins, binds) || len(it.Args) != len(d.Modules[mod].Params) {
		t.Errorf("P5.3: %+v is no instance of %+v", it, d.Modules[mod])
	}
}

func clearExpr(t *testing.T, d api.Design, m api.Module, e api.Expr) {
	t.Helper()
	switch e.Op {
	case api.Lit:
		clearDims(t, m, e.Wid, e.Val)
	case api.Slice:
		clearDims(t, m, e.Hi, e.Lo)
	case api.Read:
		if kindOf(m, e.Name) != 6 {
			t.Errorf("P5.3: %q is no memory", e.Name)
		}
	case api.Ref:
		kind := kindOf(m, e.Name)
		if dot := strings.Contains(e.Name, "."); dot && !readPort(d, m, e.Name) || !dot && kind != 2 && kind != 4 && kind != 5 {
			t.Errorf("P5.3: %q is nothing that has a value", e.Name)
		}
	}
	for _, kid := range e.Kids {
		clearExpr(t, d, m, kid)
	}
}

// checkAhead looks at P5.4.
func checkAhead(t *testing.T, r maker, d api.Design) {
	t.Helper()
	moved := copyOf(d)
	for range 3 {
		for i := range moved.Modules {
			r.shuffle(moved.Modules[i].Items)
		}
		wantFaults(t, "P5.4: items in another order", moved)
	}
	for i := range moved.Modules {
		slices.Reverse(moved.Modules[i].Items)
	}
	wantFaults(t, "P5.4: items the other way round", moved)
	for _, params := range []int{0, 2} {
		more := design(append([]api.Module{r.module("other", nil, params)}, d.Modules...)...)
		wantFaults(t, "P5.4: a module ahead", more)
	}
}

// places are an item's expressions that are looked at, and all within them.
func places(it *api.Item) []*api.Expr {
	var l []*api.Expr
	var add func(e *api.Expr)
	add = func(e *api.Expr) {
		l = append(l, e)
		for i := range e.Kids {
			add(&e.Kids[i])
		}
	}
	switch it.Kind {
	case api.Put:
		add(&it.At)
		add(&it.E)
		add(&it.If)
	case api.Inst:
		for i := range it.Binds {
			add(&it.Binds[i].E)
		}
	case api.Reg, api.Mem:
	default:
		add(&it.E)
	}
	return l
}

// checkOwn looks at P5.5, of some places.
func checkOwn(t *testing.T, r maker, d api.Design) {
	t.Helper()
	d = copyOf(d)
	for i, m := range d.Modules {
		for k := range m.Items {
			l := places(&m.Items[k])
			if len(l) == 0 {
				continue
			}
			e := pick(r, l...)
			kept := *e
			*e = pick(r, ref("zz"), ref("zz.i1"), ref("."), ref(""), ref("x1.zz"), read("zz", one()), of(api.And, one(), ref("zz")))
			wantFaults(t, "P5.5: a name that is nothing", d, at(api.ErrNone, i, k))
			*e = kept
		}
	}
}

// P5.5: in each place of a design with all kinds of items, one after the other.
func TestNothingInEachPlace(t *testing.T) {
	d := parsed(t, whole)
	n := 0
	for i, m := range d.Modules {
		for k := range m.Items {
			for _, e := range places(&m.Items[k]) {
				kept := *e
				for _, name := range []string{"nothing", "v.nothing", "nothing.b", "p"} {
					*e = ref(name)
					wantFaults(t, "P5.5: "+name, d, at(api.ErrNone, i, k))
				}
				*e = kept
				n++
			}
		}
	}
	wantFaults(t, "all put back", d)
	if n < 40 {
		t.Errorf("only %d places", n)
	}
}

// P5.4: all orders of a few items that hang on each other.
func TestAllOrders(t *testing.T) {
	d := parsed(t, lower+"module top() { wire w : 1 = v.b; inst v low<1, 1>(a : r, c : at(m, w)); reg r : 1 = 0; mem m[2] : 1; next r = w; put m[r] = w if r; }")
	var order func(n int)
	items := d.Modules[1].Items
	order = func(n int) {
		if n == len(items) {
			wantFaults(t, "P5.4: an order", d)
		}
		for i := n; i < len(items); i++ {
			items[n], items[i] = items[i], items[n]
			order(n + 1)
			items[n], items[i] = items[i], items[n]
		}
	}
	order(0)
}
