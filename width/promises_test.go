package width_test

import (
	"reflect"
	"slices"
	"strings"
	"testing"

	"proofmark/api"
	"proofmark/scope"
	"proofmark/show"
	"proofmark/width"
)

// exprsOf are an item's expressions.
func exprsOf(it api.Item) []api.Expr {
	switch it.Kind {
	case api.Put:
		return []api.Expr{it.At, it.E, it.If}
	case api.Inst:
		var l []api.Expr
		for _, b := range it.Binds {
			l = append(l, b.E)
		}
		return l
	case api.Reg, api.Mem:
		return nil
	}
	return []api.Expr{it.E}
}

// within are an expression, and all that stands in it.
func within(e api.Expr) []api.Expr {
	l := []api.Expr{e}
	for _, kid := range e.Kids {
		l = append(l, within(kid)...)
	}
	return l
}

// checkTold looks at P6.1, P6.3 and the rules P2 and P3, of a module.
func checkTold(t *testing.T, d api.Design, module int, vals []int) {
	t.Helper()
	kept, keptVals := copyOf(d), slices.Clone(vals)
	want := readCheck(d, module, vals)
	for range 2 {
		got := width.Check(d, module, vals)
		if !slices.Equal(got, want) {
			t.Errorf("P6.1: of %v, in module %d of\n%sCheck tells %v; want %v", vals, module, show.Text(d), got, want)
		}
		checkRise(t, got, module)
		for _, it := range d.Modules[module].Items {
			for _, e := range exprsOf(it) {
				for _, x := range within(e) {
					w, err := readOf(d, module, vals, x)
					wantOf(t, d, module, vals, x, w, err)
				}
			}
		}
	}
	if !reflect.DeepEqual(copyOf(d), kept) || !slices.Equal(vals, keptVals) {
		t.Errorf("P3: %+v, %v was changed to %+v, %v", kept, keptVals, d, vals)
	}
}

// P6.3: at most one fault each, and they rise; each is of the module.
func checkRise(t *testing.T, faults []api.Fault, module int) {
	t.Helper()
	last := -2
	for _, f := range faults {
		if f.Item <= last || f.Mod != module || f.At != 0 || f.Err == api.OK {
			t.Errorf("P6.3: of module %d %v", module, faults)
		}
		last = f.Item
	}
}

// P6.1 to P6.3: made designs, of the parameters by which they fit, and of others.
func TestMadeDesigns(t *testing.T) {
	for seed := range int64(400) {
		r := newMaker(seed)
		d := r.design()
		if !show.Right(d.Design) || len(scope.Check(d.Design)) > 0 {
			t.Fatalf("%s is not right, or has faults: %v", show.Text(d.Design), scope.Check(d.Design))
		}
		for i, vals := range d.vals {
			wantFaults(t, show.Text(d.Design), d.Design, i, vals)
			checkTold(t, d.Design, i, vals)
			checkHangs(t, r, d.Design, i, vals)
			checkTold(t, d.Design, i, r.others(vals))
		}
		if t.Failed() {
			return
		}
	}
}

func (r maker) others(vals []int) []int {
	l := slices.Clone(vals)
	for i := range l {
		l[i] = pick(r, l[i], l[i]+1-l[i]/65535, max(l[i]-1, 0), 0, r.Intn(18), 65535)
	}
	return l
}

// P6.1 to P6.3: designs that are spoilt; some of them have no faults still.
func TestSpoiltDesigns(t *testing.T) {
	faults := map[api.Errno]int{}
	for seed := range int64(400) {
		r := newMaker(seed)
		before := r.design()
		d := r.spoilt(before.Design)
		for i, vals := range before.vals {
			checkTold(t, d, i, vals)
			checkHangs(t, r, d, i, vals)
			for _, f := range width.Check(d, i, vals) {
				faults[f.Err]++
			}
		}
		if t.Failed() {
			return
		}
	}
	if faults[api.ErrRange] < 200 || faults[api.ErrWidth] < 200 || len(faults) > 2 {
		t.Errorf("of spoilt designs too few of one kind: %v", faults)
	}
}

// named adds the parameters that an item hangs on, by itself, and by the signals that it names.
func named(m api.Module, it api.Item) map[string]bool {
	names := map[string]bool{}
	add := func(l ...api.Dim) {
		for _, d := range l {
			names[d.Name] = true
		}
	}
	signal := func(name string) {
		name, _, _ = strings.Cut(name, ".")
		for _, p := range m.Ports {
			if p.Name == name {
				add(p.Wid)
			}
		}
		for _, x := range m.Items {
			if x.Name == name {
				add(append(x.Args, x.Wid)...)
			}
		}
	}
	add(append(it.Args, it.Wid, it.Val)...)
	signal(it.Name)
	for _, e := range exprsOf(it) {
		for _, x := range within(e) {
			add(x.Wid, x.Val, x.Hi, x.Lo)
			signal(x.Name)
		}
	}
	return names
}

// errOf is what Check tells of an item.
func errOf(faults []api.Fault, item int) api.Errno {
	for _, f := range faults {
		if f.Item == item {
			return f.Err
		}
	}
	return api.OK
}

// checkHangs looks at P6.2.
func checkHangs(t *testing.T, r maker, d api.Design, module int, vals []int) {
	t.Helper()
	was := width.Check(d, module, vals)
	checkOtherVals(t, r, d, module, vals, was)
	checkOrder(t, r, d, module, vals, was)
	checkOtherItems(t, r, d, module, vals, was)
}

// P6.2: of an item nothing changes while parameters do that it does not name.
func checkOtherVals(t *testing.T, r maker, d api.Design, module int, vals []int, was []api.Fault) {
	t.Helper()
	m := d.Modules[module]
	for i, it := range m.Items {
		other, names := slices.Clone(vals), named(m, it)
		for k, name := range m.Params {
			if !names[name] {
				other[k] = pick(r, 0, 1, 17, 65535, r.Intn(65536))
			}
		}
		if now := width.Check(d, module, other); errOf(was, i) != errOf(now, i) {
			t.Errorf("P6.2: item %d of\n%shas %v of %v, and %v of %v", i, show.Text(d), was, vals, now, other)
		}
	}
}

// P6.2: in whatever order items stand, each has its own fault.
func checkOrder(t *testing.T, r maker, d api.Design, module int, vals []int, was []api.Fault) {
	t.Helper()
	moved := api.Design{Modules: slices.Clone(d.Modules)}
	from := r.Perm(len(d.Modules[module].Items))
	items := make([]api.Item, len(from))
	for i, k := range from {
		items[i] = d.Modules[module].Items[k]
	}
	moved.Modules[module].Items = items
	now := width.Check(moved, module, vals)
	for i, k := range from {
		if errOf(was, k) != errOf(now, i) {
			t.Errorf("P6.2: item %d of\n%shas %v, and %v at %d of\n%s", k, show.Text(d), was, now, i, show.Text(moved))
		}
	}
	if len(was) != len(now) || errOf(was, -1) != errOf(now, -1) {
		t.Errorf("P6.2: of\n%sCheck tells %v, and %v of\n%s", show.Text(d), was, now, show.Text(moved))
	}
}

// P6.2: whatever other items say, but for their own widths, an item has its own fault; so has an expression its width.
func checkOtherItems(t *testing.T, r maker, d api.Design, module int, vals []int, was []api.Fault) {
	t.Helper()
	items := d.Modules[module].Items
	if len(items) == 0 {
		return
	}
	other := copyOf(d)
	keep := r.Intn(len(items))
	for i := range other.Modules[module].Items {
		it := &other.Modules[module].Items[i]
		if i == keep {
			continue
		}
		it.E, it.At, it.If = wrongWidth(), wrongRange(), wrongWidth()
		for k := range it.Binds {
			it.Binds[k].E = wrongRange()
		}
		if it.Kind != api.Inst {
			it.Val = api.Dim{N: 65535}
		}
	}
	now := width.Check(other, module, vals)
	if errOf(was, keep) != errOf(now, keep) {
		t.Errorf("P6.2: item %d of\n%shas %v, and %v of\n%+v", keep, show.Text(d), was, now, other)
	}
	for _, e := range exprsOf(items[keep]) {
		w, err := width.Of(d, module, vals, e)
		wantOf(t, other, module, vals, e, w, err)
	}
}

// P6.2: a signal is as wide as it says, though what it has does not fit; items behind are of no account.
func TestHangsOnNamedAlone(t *testing.T) {
	d := parsed(t, `module low<n, k, j>(in a : n) {
  wire v : n = w;
  wire w : n = 3'0;
  wire x : k = w;
  reg r : n = j;
  next r = w;
  mem m[j] : n;
  wire y : n = at(m, a);
} module top() { }`)
	wantFaults(t, "all fit", d, 0, []int{3, 3, 3})
	wantFaults(t, "w does not fit", d, 0, []int{4, 4, 3}, at(api.ErrWidth, 0, 1))
	wantFaults(t, "k is another one", d, 0, []int{3, 4, 3}, at(api.ErrWidth, 0, 2))
	wantFaults(t, "k is none", d, 0, []int{3, 0, 3}, at(api.ErrRange, 0, 2))
	wantFaults(t, "j is far", d, 0, []int{3, 3, 9}, at(api.ErrRange, 0, 3), at(api.ErrRange, 0, 5))
	for j := range 20 {
		for _, name := range []string{"a", "v", "w", "r"} {
			wantOf(t, d, 0, []int{4, j, 19 - j}, ref(name), 4, api.OK)
		}
		wantOf(t, d, 0, []int{4, 5, j}, ref("x"), 5, api.OK)
	}
}

// P6.3: an item with several errors has one fault; so has a module with several ports.
func TestOneEach(t *testing.T) {
	d := parsed(t, `module low<n>(in a : n, in b : n) { } module top(in a : 0, in b : 17) {
  wire w : 0 = 1'2 + 2'4;
  inst u low<17>(a : 1'2, b : 3'8);
  mem m[9] : 17;
  put m[1'2] = 1'1 & 2'1 if 2'2;
  cover c : 1'1;
  cover d : a == b;
}`)
	wantFaults(t, "several errors", d, 1, nil, at(api.ErrRange, 1, -1), at(api.ErrRange, 1, 0), at(api.ErrRange, 1, 1),
		at(api.ErrRange, 1, 2), at(api.ErrRange, 1, 3), at(api.ErrRange, 1, 5))
}

// The rule P3: what was told is not changed by what is told later.
func TestFaultsAreNew(t *testing.T) {
	d := parsed(t, "module top() { wire w : 17 = 1'1; wire x : 1 = 2'1; }")
	first := width.Check(d, 0, nil)
	second := width.Check(d, 0, nil)
	second[0], second[1] = api.Fault{}, api.Fault{}
	third := width.Check(d, 0, nil)
	want := []api.Fault{at(api.ErrRange, 0, 0), at(api.ErrWidth, 0, 1)}
	if !slices.Equal(first, want) || !slices.Equal(third, want) {
		t.Errorf("P3: %v, %v; want %v", first, third, want)
	}
}
