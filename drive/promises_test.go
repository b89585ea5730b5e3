package drive_test

import (
	"cmp"
	"reflect"
	"slices"
	"strconv"
	"testing"

	"proofmark/api"
	"proofmark/drive"
)

func countOf(faults []api.Fault, err api.Errno) int {
	n := 0
	for _, f := range faults {
		if f.Err == err {
			n++
		}
	}
	return n
}

// checkTold looks at P7.1 and the rules P2 and P3, of a module: the answers are what G1 and G2 say, and the same again.
func checkTold(t *testing.T, d api.Design, module int) {
	t.Helper()
	want := readCheck(d, module)
	order, ok := readOrder(d, module)
	for range 2 {
		if got := drive.Check(d, module); !slices.Equal(got, want) {
			t.Errorf("P7.1: of module %d of %+v Check tells %v; want %v", module, d, got, want)
		}
		if got, is := drive.Order(d, module); is != ok || !slices.Equal(got, order) {
			t.Errorf("P7.1: of module %d of %+v Order tells %v, %t; want %v, %t", module, d, got, is, order, ok)
		}
	}
	if !slices.IsSortedFunc(want, func(a, b api.Fault) int { return cmp.Compare(a.Item, b.Item) }) {
		t.Errorf("P7.1: of module %d of %+v faults do not rise: %v", module, d, want)
	}
}

// keeping looks at the rule P3: what is done with a design does not change it.
func keeping(t *testing.T, d api.Design, do func()) {
	t.Helper()
	kept := copyOf(d)
	do()
	if !reflect.DeepEqual(copyOf(d), kept) {
		t.Errorf("P3: %+v was changed to %+v", kept, d)
	}
}

// checkBehind looks at P7.2, and at the first part of P7.3.
func checkBehind(t *testing.T, d api.Design, module int) {
	t.Helper()
	if !told(d, module) {
		return
	}
	order, ok := drive.Order(d, module)
	if rings := countOf(drive.Check(d, module), api.ErrRound); ok != (rings == 0) {
		t.Errorf("P7.3: of module %d of %+v there are %d rings, and %t of an order", module, d, rings, ok)
	}
	if !ok {
		return
	}
	items := d.Modules[module].Items
	for i, it := range items {
		if times := countIn(order, i); ordered(it) && times != 1 || !ordered(it) && times != 0 {
			t.Errorf("P7.2: item %d of %+v stands %d times in %v", i, items, times, order)
		}
		for k, on := range items {
			if itemHangs(it, on) && slices.Index(order, k) >= slices.Index(order, i) {
				t.Errorf("P7.2: item %d of %+v hangs on %d, and stands not behind it in %v", i, items, k, order)
			}
		}
	}
	if len(order) > 0 && (slices.Min(order) < 0 || slices.Max(order) >= len(items)) {
		t.Errorf("P7.2: %v has no items of %+v", order, items)
	}
}

func countIn(l []int, n int) int {
	times := 0
	for _, at := range l {
		if at == n {
			times++
		}
	}
	return times
}

// checkMoved looks at the second part of P7.3.
func checkMoved(t *testing.T, r maker, d api.Design, module int) {
	t.Helper()
	want := countOf(drive.Check(d, module), api.ErrRound)
	moved := copyOf(d)
	items := moved.Modules[module].Items
	for range 3 {
		r.shuffle(items)
		if got := countOf(drive.Check(moved, module), api.ErrRound); got != want {
			t.Errorf("P7.3: %+v has %d rings, in another order %d: %+v", d, want, got, items)
		}
		checkBehind(t, moved, module)
	}
	slices.Reverse(items)
	if got := countOf(drive.Check(moved, module), api.ErrRound); got != want {
		t.Errorf("P7.3: %+v has %d rings, the other way round %d", d, want, got)
	}
}

// wrap changes all expressions of a module's items.
func wrap(items []api.Item, change func(e api.Expr) api.Expr) {
	for i := range items {
		it := &items[i]
		it.E, it.At, it.If = change(it.E), change(it.At), change(it.If)
		for k := range it.Binds {
			it.Binds[k].E = change(it.Binds[k].E)
		}
	}
}

// checkPast looks at the third part of P7.3: all within a Past there is no ring, and what comes to it makes none.
func checkPast(t *testing.T, d api.Design, module int) {
	t.Helper()
	past := copyOf(d)
	wrap(past.Modules[module].Items, func(e api.Expr) api.Expr { return of(api.Past, e) })
	var want []int
	for i, it := range d.Modules[module].Items {
		if ordered(it) {
			want = append(want, i)
		}
	}
	wantOrder(t, "P7.3: all within a Past", past, module, want...)
	if got := countOf(drive.Check(past, module), api.ErrRound); got != 0 {
		t.Errorf("P7.3: all within a Past there are %d rings: %+v", got, past)
	}
	more := copyOf(d)
	wrap(more.Modules[module].Items, func(e api.Expr) api.Expr { return of(api.And, of(api.Past, everything(d, module)), e) })
	wantFaults(t, "P7.3: more within a Past", more, module, drive.Check(d, module)...)
	want, ok := drive.Order(d, module)
	if got, is := drive.Order(more, module); is != ok || !slices.Equal(got, want) {
		t.Errorf("P7.3: with more within a Past the order is %v, %t; want %v, %t", got, is, want, ok)
	}
}

// everything is an expression of all wires of a module.
func everything(d api.Design, module int) api.Expr {
	e := bit()
	for _, it := range d.Modules[module].Items {
		if it.Kind == api.Wire {
			e = of(api.Xor, e, ref(it.Name))
		}
	}
	return e
}

// checkDriven looks at the first part of P7.4, and at what is open where one Drive is missing.
func checkDriven(t *testing.T, d api.Design, module int) {
	t.Helper()
	without := copyOf(d)
	m := &without.Modules[module]
	m.Items = slices.DeleteFunc(m.Items, func(it api.Item) bool { return it.Kind == api.Drive })
	var drives []api.Item
	for _, p := range m.Ports {
		if !p.In {
			drives = append(drives, api.Item{Kind: api.Drive, Name: p.Name, E: everything(d, module)})
		}
	}
	rest := m.Items
	m.Items = slices.Concat(drives, rest)
	if got := drive.Check(without, module); countOf(got, api.ErrOpen) != 0 {
		t.Errorf("P7.4: each out-port of %+v has a Drive, and there is %v", *m, got)
	}
	for i := range drives {
		m.Items = slices.Concat(rest, slices.Delete(slices.Clone(drives), i, i+1))
		got := drive.Check(without, module)
		if countOf(got, api.ErrOpen) != 1 || got[0] != (api.Fault{Err: api.ErrOpen, Mod: module, Item: -1}) {
			t.Errorf("P7.4: an out-port of %+v has no Drive, and there is %v", *m, got)
		}
	}
}

// checkMany looks at the second part of P7.4: a Next, or a Drive, comes once more, anywhere.
func checkMany(t *testing.T, r maker, d api.Design, module int) {
	t.Helper()
	before := drive.Check(d, module)
	for _, it := range d.Modules[module].Items {
		if it.Kind != api.Next && it.Kind != api.Drive {
			continue
		}
		more := copyOf(d)
		m := &more.Modules[module]
		m.Items = slices.Insert(m.Items, r.Intn(len(m.Items)+1), api.Item{Kind: it.Kind, Name: it.Name, E: everything(d, module)})
		after := drive.Check(more, module)
		if countOf(after, api.ErrMany) != countOf(before, api.ErrMany)+1 || len(after) != len(before)+1 {
			t.Errorf("P7.4: once more %+v in %+v: %v, then %v", it, d.Modules[module].Items, before, after)
		}
	}
}

// tally is how much of each kind there was.
type tally struct {
	orders, several int
	faults          map[api.Errno]int
}

func (n *tally) add(faults []api.Fault) {
	rings := countOf(faults, api.ErrRound)
	if rings == 0 {
		n.orders++
	}
	if rings > 1 {
		n.several++
	}
	for _, f := range faults {
		n.faults[f.Err]++
	}
}

// P7.1 to P7.4: made designs without faults of names, of which some have rings, and some have none.
func TestMadeDesigns(t *testing.T) {
	seen := tally{faults: map[api.Errno]int{}}
	for seed := range int64(400) {
		r := newMaker(seed)
		d := r.design()
		keeping(t, d, func() {
			for module := range d.Modules {
				checkModule(t, r, d, module)
				seen.add(drive.Check(d, module))
			}
			for _, module := range []int{-1, len(d.Modules), len(d.Modules) + 7} {
				wantNothing(t, "no such module", d, module)
			}
		})
	}
	n := seen.faults
	if seen.orders < 100 || seen.several < 50 || n[api.ErrOpen] < 50 || n[api.ErrMany] < 100 || n[api.ErrRound] < 200 {
		t.Errorf("made designs have %+v: too few of a kind", seen)
	}
}

func checkModule(t *testing.T, r maker, d api.Design, module int) {
	t.Helper()
	if !told(d, module) {
		t.Fatalf("%+v has faults of names", d)
	}
	checkTold(t, d, module)
	checkBehind(t, d, module)
	checkMoved(t, r, d, module)
	checkPast(t, d, module)
	checkDriven(t, d, module)
	checkMany(t, r, d, module)
}

// P7.1, and the rules: designs that are spoilt once, or over and over; some of them have no faults of names still.
func TestSpoiltDesigns(t *testing.T) {
	with, without := 0, 0
	for seed := range int64(1500) {
		r := newMaker(seed)
		d := copyOf(r.design())
		for range 1 + r.Intn(3)*r.Intn(6) {
			r.spoil(&d)
		}
		keeping(t, d, func() {
			for module := -1; module <= len(d.Modules); module++ {
				checkTold(t, d, module)
				checkBehind(t, d, module)
			}
		})
		if told(d, 0) {
			without++
		} else {
			with++
		}
	}
	if with < 300 || without < 300 {
		t.Errorf("of spoilt designs %d have faults of names, and %d have none: too few of one kind", with, without)
	}
}

// of4 is a design of four items, wires or instances, of which each hangs on some: four bits of each in hangs, one of
// each in insts.
func of4(hangs, insts int) api.Design {
	low := api.Module{Name: "low", Ports: []api.Port{{In: true, Name: "a"}, {Name: "b"}}}
	is := func(i int) bool { return insts>>i&1 == 1 }
	var items []api.Item
	for i := range 4 {
		e := bit()
		for k := range 4 {
			name := "x" + strconv.Itoa(k)
			if is(k) {
				name += ".b"
			}
			if hangs>>(4*i+k)&1 == 1 {
				e = of(api.Or, ref(name), e)
			}
		}
		it := wire("x"+strconv.Itoa(i), e)
		if is(i) {
			it = api.Item{Kind: api.Inst, Name: it.Name, Mod: "low", Binds: []api.Bind{{Port: "a", E: e}}}
		}
		items = append(items, it)
	}
	return api.Design{Modules: []api.Module{low, {Name: "top", Items: items}}}
}

// P7.1 to P7.3: four items that hang on each other in all ways.
func TestAllWaysOfFour(t *testing.T) {
	for hangs := range 1 << 16 {
		d := of4(hangs, hangs%15)
		wantFaults(t, "four items", d, 1, readCheck(d, 1)...)
		if order, ok := readOrder(d, 1); ok {
			wantOrder(t, "four items", d, 1, order...)
		} else {
			wantNoOrder(t, "four items", d, 1)
		}
	}
}
