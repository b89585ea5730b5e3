package drive_test

import (
	"math"
	"slices"
	"testing"

	"proofmark/api"
	"proofmark/drive"
	"proofmark/scope"
	"proofmark/syn"
)

// lower is a module that others may have instances of.
const lower = "module low(in a : 1, in c : 1, out b : 1, out d : 1) { out b = a; out d = c; }\n"

func parsed(t *testing.T, text string) api.Design {
	t.Helper()
	d, faults := syn.Parse(text)
	if len(faults) > 0 {
		t.Fatalf("%s is no design: %v", text, faults)
	}
	return d
}

// top is a design of module low, and of one with two inputs, and these items; there it has faults of names, the test ends.
func top(t *testing.T, items string) api.Design {
	t.Helper()
	d := parsed(t, lower+"module top(in i : 1, in k : 1) { "+items+" }")
	if faults := scope.Check(d); len(faults) > 0 {
		t.Fatalf("%s has faults of names: %v", items, faults)
	}
	return d
}

func at(err api.Errno, item int) api.Fault { return api.Fault{Err: err, Mod: 1, Item: item} }

func open() api.Fault { return at(api.ErrOpen, -1) }

func many(item int) api.Fault { return at(api.ErrMany, item) }

func round(item int) api.Fault { return at(api.ErrRound, item) }

func wantFaults(t *testing.T, what string, d api.Design, module int, want ...api.Fault) {
	t.Helper()
	if got := drive.Check(d, module); !slices.Equal(got, want) {
		t.Errorf("%s: Check tells %v of module %d; want %v", what, got, module, want)
	}
}

func wantOrder(t *testing.T, what string, d api.Design, module int, want ...int) {
	t.Helper()
	if got, ok := drive.Order(d, module); !ok || !slices.Equal(got, want) {
		t.Errorf("%s: Order of module %d is %v, %t; want %v", what, module, got, ok, want)
	}
}

func wantNoOrder(t *testing.T, what string, d api.Design, module int) {
	t.Helper()
	if got, ok := drive.Order(d, module); ok || len(got) > 0 {
		t.Errorf("%s: Order of module %d is %v, %t; want none", what, module, got, ok)
	}
}

// wantRings is of items of which nothing else is wrong; with a ring there is no order.
func wantRings(t *testing.T, items string, least ...int) {
	t.Helper()
	d := top(t, items)
	var want []api.Fault
	for _, item := range least {
		want = append(want, round(item))
	}
	wantFaults(t, items, d, 1, want...)
	wantNoOrder(t, items, d, 1)
}

// wantClear is of items without a ring, of which nothing else is wrong.
func wantClear(t *testing.T, items string, order ...int) {
	t.Helper()
	d := top(t, items)
	wantFaults(t, items, d, 1)
	wantOrder(t, items, d, 1, order...)
}

// wantNothing is of a module, or a design, of which nothing is told.
func wantNothing(t *testing.T, what string, d api.Design, module int) {
	t.Helper()
	wantFaults(t, what, d, module)
	wantNoOrder(t, what, d, module)
}

// P7.1: the chapter's examples.
func TestExamples(t *testing.T) {
	wantRings(t, "wire a : 1 = b; wire b : 1 = a; wire c : 1 = c;", 0, 2)
	wantClear(t, "wire a : 1 = b; wire b : 1 = i;", 1, 0)
	wantClear(t, "wire a : 1 = past(a);", 0)
}

// P7.1, G1, G2: a module that there is not.
func TestNoModule(t *testing.T) {
	bad := parsed(t, lower+"module top(out o : 1) { wire a : 1 = a; }")
	good := top(t, "wire a : 1 = i;")
	for _, d := range []api.Design{bad, good} {
		for _, module := range []int{math.MinInt, -2, -1, 2, 3, math.MaxInt} {
			wantNothing(t, "no such module", d, module)
		}
	}
	for module := range 3 {
		wantNothing(t, "no module", api.Design{}, module-1)
		wantNothing(t, "no module", api.Design{Modules: []api.Module{}}, module-1)
	}
}

// P7.1, G1, G2: a design with faults of names, wherever they are, and whatever else is wrong.
func TestFaultsOfNames(t *testing.T) {
	for _, text := range []string{
		lower + "module top(out o : 1) { wire a : 1 = z; }",
		lower + "module top(out o : 1) { wire a : 1 = a; cover c : z; }",
		lower + "module top<n>() { wire a : 1 = a; }",
		lower + "module top() { wire a : 1 = 1'1; wire a : 1 = 1'1; }",
		"module low(out b : 1) { cover c : z; } module top() { wire a : 1 = a; }",
		"module low() { wire a : 1 = a; } module low() { wire a : 1 = 1'1; }",
		"module low(out b : 1) { out b = b; } module top() { wire a : 1 = 1'1; }",
	} {
		d := parsed(t, text)
		if len(scope.Check(d)) == 0 {
			t.Errorf("%s has no faults of names", text)
		}
		wantNothing(t, text, d, 0)
		wantNothing(t, text, d, 1)
	}
}

// P7.1, G1, G2: the module that is asked for is told of, and no other one.
func TestModuleAlone(t *testing.T) {
	d := parsed(t, "module a(out o : 1) { wire x : 1 = x; } module b() { wire x : 1 = y; wire y : 1 = 1'1; } module c(out o : 1) { out o = 1'1; out o = 1'0; }")
	wantFaults(t, "a", d, 0, api.Fault{Err: api.ErrOpen, Item: -1}, api.Fault{Err: api.ErrRound})
	wantNoOrder(t, "a", d, 0)
	wantFaults(t, "b", d, 1)
	wantOrder(t, "b", d, 1, 1, 0)
	wantFaults(t, "c", d, 2, api.Fault{Err: api.ErrMany, Mod: 2, Item: 1})
	wantOrder(t, "c", d, 2, 0, 1)
}

// P7.1, G1, G2: a module of params is told of whatever they are.
func TestParams(t *testing.T) {
	d := parsed(t, "module a<n>(in i : n, out o : n+1) { wire x : n = y; wire y : n = i; out o = {x, 1'1}; } module top() { }")
	wantFaults(t, "params", d, 0)
	wantOrder(t, "params", d, 0, 1, 0, 2)
}

// P7.1, G1, G2: a module without ports, and one without items.
func TestEmpty(t *testing.T) {
	d := parsed(t, "module a() { } module b(in i : 1) { } module c(out o : 1) { } module d() { cover c : 1'1; } module e() { reg r : 1 = 0; next r = r; mem m[1] : 1; }")
	for _, module := range []int{0, 1, 3, 4} {
		wantFaults(t, "nothing is made", d, module)
		wantOrder(t, "nothing is made", d, module)
	}
	wantFaults(t, "a port alone", d, 2, api.Fault{Err: api.ErrOpen, Mod: 2, Item: -1})
	wantOrder(t, "a port alone", d, 2)
}

// P7.1, P7.4: out-ports without a Drive, of which there is one ErrOpen, whichever it is, and however many.
func TestOpen(t *testing.T) {
	for _, c := range []struct {
		items string
		want  []api.Fault
	}{
		{"", []api.Fault{open()}},
		{"out o = 1'1;", []api.Fault{open()}},
		{"out p = 1'1;", []api.Fault{open()}},
		{"out o = 1'1; out q = 1'1;", []api.Fault{open()}},
		{"out o = 1'1; out o = 1'1; out o = 1'1;", []api.Fault{open(), many(1), many(2)}},
		{"out q = 1'1; out p = 1'1; out o = 1'1;", nil},
		{"wire x : 1 = x; out o = 1'1;", []api.Fault{open(), round(0)}},
		{"out o = past(i); out p = i; out q = 1'1;", nil},
	} {
		d := parsed(t, lower+"module top(in i : 1, out o : 1, out p : 1, in j : 1, out q : 1) { "+c.items+" }")
		wantFaults(t, c.items, d, 1, c.want...)
	}
}

// P7.1, P7.4: an out-port has one Drive, two, three, and several ports have some.
func TestManyDrives(t *testing.T) {
	for _, c := range []struct {
		items string
		want  []api.Fault
	}{
		{"out o = i; out p = i;", nil},
		{"out o = i; out p = i; out o = i;", []api.Fault{many(2)}},
		{"out o = i; out o = k; out p = i;", []api.Fault{many(1)}},
		{"out o = i; out o = k; out p = i; out o = 1'0;", []api.Fault{many(1), many(3)}},
		{"out o = i; out p = k; out p = i; out o = 1'0;", []api.Fault{many(2), many(3)}},
		{"out o = i; wire w : 1 = w; out p = k; out p = i; wire x : 1 = x; out o = 1'0;", []api.Fault{round(1), many(3), round(4), many(5)}},
	} {
		d := parsed(t, lower+"module top(in i : 1, in k : 1, out o : 1, out p : 1) { "+c.items+" }")
		wantFaults(t, c.items, d, 1, c.want...)
	}
}

// P7.1, P7.4: a register has no Next, one, two, three, and several registers have some.
func TestManyNexts(t *testing.T) {
	regs := "reg r : 1 = 0; reg s : 1 = 0; "
	for _, c := range []struct {
		items string
		want  []api.Fault
	}{
		{"", nil}, {"next r = i;", nil}, {"next r = s; next s = r;", nil},
		{"next r = s; next r = s;", []api.Fault{many(3)}},
		{"next r = s; next r = i; next r = r;", []api.Fault{many(3), many(4)}},
		{"next r = s; next s = s; next s = s; next r = s;", []api.Fault{many(4), many(5)}},
	} {
		wantFaults(t, c.items, top(t, regs+c.items), 1, c.want...)
	}
	// A Next may stand ahead of its register, which does not count as one.
	wantFaults(t, "ahead", top(t, "next r = i; reg r : 1 = 0;"), 1)
	wantFaults(t, "around", top(t, "next r = i; reg r : 1 = 0; next r = i;"), 1, many(2))
}

// P7.1: a Next, and a Drive, are of two kinds: none of them is one more of the other. One name of both is a fault of names.
func TestTwoKinds(t *testing.T) {
	d := parsed(t, "module top(out o : 1) { reg r : 1 = 0; next r = r; out o = r; }")
	wantFaults(t, "one each", d, 0)
	d = parsed(t, "module top(out o : 1) { reg r : 1 = 0; out o = r; next r = r; out o = r; next r = r; }")
	wantFaults(t, "two each", d, 0, api.Fault{Err: api.ErrMany, Item: 3}, api.Fault{Err: api.ErrMany, Item: 4})
	for _, items := range []string{"next o = 1'1; out o = 1'1;", "out o = 1'1; next o = 1'1;", "reg o : 1 = 0; next o = 1'1; out o = 1'1;", "reg o : 1 = 0; out o = 1'1; next o = 1'1; next o = 1'0;"} {
		wantNothing(t, items, parsed(t, "module top(out o : 1) { "+items+" }"), 0)
	}
	wantNothing(t, "no port", parsed(t, "module top() { reg o : 1 = 0; next o = 1'1; out o = 1'1; }"), 0)
}

// P7.1: what may be there many times, and other items that share nothing but their kind.
func TestNotMany(t *testing.T) {
	wantFaults(t, "Puts", top(t, "mem m[2] : 1; put m[i] = i if k; put m[i] = i if k; put m[k] = i if k;"), 1)
	wantFaults(t, "instances", top(t, "inst u low(a : i, c : i); inst v low(a : i, c : i);"), 1)
	wantFaults(t, "properties", top(t, "cover c : i; cover d : i; assert e : i; assert f : i; assume g : i; assume h : i;"), 1)
}

// P7.1: a ring is told of its least item, wherever it is entered.
func TestRings(t *testing.T) {
	wantRings(t, "wire a : 1 = a;", 0)
	wantRings(t, "wire x : 1 = i; wire a : 1 = a;", 1)
	wantRings(t, "wire a : 1 = a; wire b : 1 = b;", 0, 1)
	wantRings(t, "wire a : 1 = b; wire b : 1 = c; wire c : 1 = a;", 0)
	wantRings(t, "wire a : 1 = c; wire b : 1 = a; wire c : 1 = b;", 0)
	wantRings(t, "wire a : 1 = d; wire b : 1 = c; wire c : 1 = b; wire d : 1 = a;", 0, 1)
	wantRings(t, "wire a : 1 = c; wire b : 1 = d; wire c : 1 = a; wire d : 1 = b;", 0, 1)
	wantRings(t, "wire a : 1 = i; wire b : 1 = d; wire c : 1 = k; wire d : 1 = b;", 1)
	wantRings(t, "wire a : 1 = a | a & a;", 0)
}

// P7.1: two rings that share an item are one, and so are two that hang on each other.
func TestSharedRings(t *testing.T) {
	wantRings(t, "wire a : 1 = b; wire b : 1 = a | c; wire c : 1 = b;", 0)
	wantRings(t, "wire c : 1 = b; wire a : 1 = b; wire b : 1 = a | c;", 0)
	wantRings(t, "wire b : 1 = a | c; wire a : 1 = b; wire c : 1 = b;", 0)
	wantRings(t, "wire a : 1 = a | b; wire b : 1 = a;", 0)
	wantRings(t, "wire x : 1 = a; wire a : 1 = b; wire b : 1 = a | d; wire c : 1 = d | b; wire d : 1 = c;", 1)
	// One way alone: they are two.
	wantRings(t, "wire a : 1 = b; wire b : 1 = a | d; wire c : 1 = d; wire d : 1 = c;", 0, 2)
	wantRings(t, "wire a : 1 = b; wire b : 1 = a; wire c : 1 = d | a; wire d : 1 = c;", 0, 2)
	wantRings(t, "wire a : 1 = a; wire b : 1 = b | a; wire c : 1 = c | a | b;", 0, 1, 2)
}

// P7.1: an item that hangs on a ring, or on which one hangs, or that stands between two, is in none.
func TestBesideRings(t *testing.T) {
	wantRings(t, "wire x : 1 = a; wire a : 1 = a;", 1)
	wantRings(t, "wire a : 1 = a; wire x : 1 = a; wire y : 1 = x;", 0)
	wantRings(t, "wire x : 1 = y; wire y : 1 = a; wire a : 1 = b; wire b : 1 = a;", 2)
	wantRings(t, "wire x : 1 = i; wire a : 1 = b | x; wire b : 1 = a;", 1)
	wantRings(t, "wire a : 1 = b; wire b : 1 = a | x; wire x : 1 = i;", 0)
	wantRings(t, "wire x : 1 = a; wire a : 1 = a; wire b : 1 = b | x;", 1, 2)
	wantRings(t, "wire x : 1 = a & b; wire a : 1 = a; wire b : 1 = b;", 1, 2)
	wantRings(t, "inst u low(a : v.b, c : i); inst v low(a : w, c : i); wire w : 1 = w;", 2)
	d := parsed(t, "module top(out o : 1) { out o = a; wire a : 1 = a; }")
	wantFaults(t, "a Drive on a ring", d, 0, api.Fault{Err: api.ErrRound, Item: 1})
	wantNoOrder(t, "a Drive on a ring", d, 0)
}

// P7.1: an instance's port is that instance, whichever port, and whatever the module does with it.
func TestInstances(t *testing.T) {
	wantRings(t, "inst u low(a : u.b, c : i);", 0)
	wantRings(t, "inst u low(a : i, c : u.b);", 0)
	wantRings(t, "wire w : 1 = u.d; inst u low(a : w, c : i);", 0)
	wantRings(t, "inst u low(a : w, c : i); wire w : 1 = u.d;", 0)
	wantRings(t, "inst u low(c : v.b, a : i); inst v low(a : i, c : u.b);", 0)
	wantRings(t, "wire x : 1 = i; inst u low(c : x, a : w.d); inst v low(a : k, c : u.b); inst w low(a : v.d, c : 1'1);", 1)
	wantClear(t, "inst u low(a : v.b, c : v.d); inst v low(a : i, c : w); wire w : 1 = i;", 2, 1, 0)
	wantClear(t, "inst u low(a : past(u.b), c : i);", 0)
	wantClear(t, "wire w : 1 = u.b | v.b; inst v low(a : past(w), c : u.b); inst u low(a : i, c : past(v.d));", 2, 1, 0)
}

// P7.1, P7.3: what is in a Past does not count, but the same name outside it does.
func TestPast(t *testing.T) {
	wantClear(t, "wire a : 1 = past(b); wire b : 1 = a;", 0, 1)
	wantClear(t, "wire a : 1 = past(past(b)) | past(i & a); wire b : 1 = past(~a) & a;", 0, 1)
	wantClear(t, "wire a : 1 = past(i ? b : {b, b}[0]); wire b : 1 = past(b);", 0, 1)
	wantClear(t, "wire b : 1 = past(a); wire a : 1 = past(b);", 0, 1)
	wantRings(t, "wire a : 1 = past(a) & a;", 0)
	wantRings(t, "wire a : 1 = a & past(a);", 0)
	wantRings(t, "wire a : 1 = past(b); wire b : 1 = c | past(c); wire c : 1 = past(b) | b;", 1)
	wantClear(t, "wire a : 1 = past(b) | b; wire b : 1 = i;", 1, 0)
	wantClear(t, "wire a : 1 = past(b); wire b : 1 = i;", 0, 1)
	wantClear(t, "mem m[2] : 1; wire a : 1 = past(at(m, a)); wire b : 1 = at(m, past(b));", 1, 2)
}

// P7.1: a Read's Kid counts, its memory does not, whatever is put there.
func TestRead(t *testing.T) {
	wantRings(t, "mem m[2] : 1; wire a : 1 = at(m, a);", 1)
	wantRings(t, "wire a : 1 = at(m, at(m, b)); mem m[2] : 1; wire b : 1 = a;", 0)
	wantClear(t, "mem m[2] : 1; wire a : 1 = at(m, b); wire b : 1 = at(m, i);", 2, 1)
	wantClear(t, "mem m[2] : 1; wire a : 1 = at(m, i); put m[a] = a if a;", 1)
	wantClear(t, "wire a : 1 = at(m, i); put m[a] = b if a; wire b : 1 = a; mem m[2] : 1;", 0, 2)
}

// P7.1: inputs and registers hang on nothing, nor do they count.
func TestInputsAndRegisters(t *testing.T) {
	wantClear(t, "reg r : 1 = 0; wire a : 1 = r & i; next r = a;", 1)
	wantClear(t, "wire b : 1 = r; wire a : 1 = b; next r = a; reg r : 1 = 0;", 0, 1)
	wantClear(t, "next r = b; wire a : 1 = b; wire b : 1 = k; reg r : 1 = 0;", 2, 1)
	wantClear(t, "reg r : 1 = 0; next r = r; inst u low(a : r, c : r); wire a : 1 = r;", 2, 3)
}

// P7.1: properties, Nexts and Puts are in no order, and hang on nothing.
func TestOthersAreNotOrdered(t *testing.T) {
	wantClear(t, "assert p : a; assume q : a; cover c : b; wire a : 1 = b; wire b : 1 = i; reg r : 1 = 0; next r = a; mem m[2] : 1; put m[a] = a if b;", 4, 3)
	// They have E, At and If too, as they have Binds, of which nothing counts.
	d := top(t, "wire a : 1 = i; reg r : 1 = 0; mem m[2] : 1; inst u low(a : i, c : i); cover c : a;")
	items := d.Modules[1].Items
	for i := range items {
		items[i].At, items[i].If = ref("a"), ref("u.b")
		if items[i].Kind != api.Inst {
			items[i].Binds = []api.Bind{{Port: "a", E: ref("a")}, {Port: "c", E: ref("u.b")}}
		}
		if items[i].Kind != api.Wire {
			items[i].E = ref("u.d")
		}
	}
	wantFaults(t, "fields that do not count", d, 1)
	wantOrder(t, "fields that do not count", d, 1, 0, 3)
}
