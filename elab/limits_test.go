package elab_test

import (
	"fmt"
	"slices"
	"strings"
	"testing"

	"proofmark/api"
	"proofmark/elab"
	"proofmark/net"
)

// many are so many items, each with its number as a part of its name.
func many(count int, item string) string {
	var b strings.Builder
	for i := range count {
		fmt.Fprintf(&b, item+" ", i)
	}
	return b.String()
}

// crowd is a design of 3972 to 4034 instances: the top, 63 of 63 each, one more, and those within that, the last one of its own kind.
func crowd(all int, first, last string) string {
	within := all - 1 - 63*63 - 1
	return "module a() { } module bad() { wire w : 2 = 1'1; } module b() { " + many(62, "inst i%d a();") + "} " +
		"module c() { " + many(within-1, "inst i%d a();") + "inst l " + last + "(); } " +
		"module t() { inst f " + first + "(); " + many(62, "inst i%d b();") + "inst z c(); }"
}

// J1: 4000 instances may be, the 4001st is too many; what is wrong with one that is visited ahead of it is told.
func TestInstances(t *testing.T) {
	for _, all := range []int{3972, 3999, 4000} {
		n := wantFits(t, crowd(all, "b", "a"))
		if !net.Same(n, api.Net{}) {
			t.Errorf("%d instances of nothing are %+v", all, n)
		}
		wantFaults(t, crowd(all, "b", "bad"), fault(api.ErrWidth, 1, 0))
	}
	for _, all := range []int{4001, 4002, 4034} {
		wantBig(t, crowd(all, "b", "a"))
		wantBig(t, crowd(all, "b", "bad"))
	}
	// One in place of 63 is the first one.
	wantFits(t, crowd(4001, "a", "a"))
	wantFaults(t, crowd(4001, "bad", "a"), fault(api.ErrWidth, 1, 0))
	// Far more than can be gone through.
	text := "module m0() { } "
	for i := range 6 {
		text += fmt.Sprintf("module m%d() { %s} ", i+1, many(64, "inst i%d "+fmt.Sprintf("m%d", i)+"();"))
	}
	wantBig(t, text)
	wantFaults(t, strings.Replace(text, "m0() {", "m0() { wire w : 2 = 1'1;", 1), fault(api.ErrWidth, 0, 0))
}

// nodes is a design of so many nodes, and those of a top's ports and items.
func nodes(filled int, ports, items string) string {
	const eight, one = "wire e%d : 1 = ~~~~~~~1'0;", "wire o%d : 1 = 1'1;"
	rest := filled - 9*400
	return "module f() { " + many(50, eight) + "} module r() { " + many(rest/8, eight) + many(rest%8, one) + "} " +
		"module t(" + ports + ") { " + many(9, "inst f%d f();") + "inst rest r(); " + items + " }"
}

// J1: 4000 nodes may be, 4001 are too many, whichever comes last.
func TestNodes(t *testing.T) {
	for _, x := range []struct {
		ports, items string
		many         int
	}{
		{"", "", 0},
		{"", "wire z : 1 = 1'1;", 1},
		{"", "wire y : 1 = z; wire z : 1 = 1'1; wire x : 1 = y;", 1},
		{"in a : 16", "wire z : 16 = a;", 1},
		{"in a : 1", "cover c : past(a);", 2},
		{"", "reg r : 1 = 0;", 1},
		{"", "reg r : 1 = 0; next r = ~r;", 2},
		{"", "mem m[8] : 1;", 8},
		{"", "cover c : past(~1'1);", 3},
		{"", "mem m[2] : 1; put m[1'1] = 1'1 if 1'1;", 2 + 3 + 2*4},
		{"", "mem m[3] : 1; cover c : at(m, 1'1);", 3 + 2 + 2*3},
		{"in a : 1", "assert p : ~a;", 2},
	} {
		if n := wantFits(t, nodes(4000-x.many, x.ports, x.items)); len(n.Nodes) != 4000 {
			t.Errorf("%s has %d nodes; want 4000", x.items, len(n.Nodes))
		}
		wantBig(t, nodes(4001-x.many, x.ports, x.items))
		wantBig(t, nodes(4003-x.many, x.ports, x.items))
	}
	// Far too many: some 16000, and then all that may hang on what is not made.
	wantBig(t, `module f() { `+many(50, "wire e%d : 1 = ~~~~~~~1'0;")+` } module g(in a : 4, out y : 2) { mem m[8] : 2; reg r : 2 = 1; wire q : 2 = at(m, a);
		put m[a] = past(q) if q[0]; next r = past(q ^ r); out y = r + q; assert p : past(r == q); }
		module t() { `+many(40, "inst f%d f();")+"inst i g(a : {k.y, k.y}); inst k g(a : 4'3); cover c : i.y == k.y; }")
}

// cells is a design of so many registers of one bit, and a top's items.
func cells(filled int, items string) string {
	rest := filled - 4*60
	return "module f() { " + many(60, "reg r%d : 1 = 0;") + "} module r() { " + many(rest, "reg r%d : 1 = 1;") + "} module t() { " +
		many(4, "inst f%d f();") + "inst rest r(); " + items + " }"
}

// bits is a design of 15 registers of 16 bits, some others of one bit, and a top's items.
func bits(filled int, items string) string {
	return "module t() { " + many(15, "reg r%d : 16 = 65535;") + many(filled-15*16, "reg b%d : 1 = 0;") + items + " }"
}

// J1: 256 cells, and 256 bits of cells, may be, 257 are too many, of registers, of memories' words and of Pasts.
func TestCells(t *testing.T) {
	for _, x := range []struct {
		items string
		many  int
	}{
		{"", 0},
		{"reg r : 1 = 0;", 1},
		{"mem m[1] : 1;", 1},
		{"mem m[8] : 1;", 8},
		{"wire w : 1 = past(1'1);", 1},
		{"cover c : past(past(past(1'1)));", 3},
	} {
		n := wantFits(t, cells(256-x.many, x.items))
		if len(n.Cells) != 256 {
			t.Errorf("%s has %d cells; want 256", x.items, len(n.Cells))
		}
		wantBig(t, cells(257-x.many, x.items))
	}
	for _, x := range []struct {
		items string
		many  int
	}{
		{"", 0},
		{"reg r : 12 = 0;", 12},
		{"mem m[2] : 3;", 6},
		{"wire w : 5 = past(5'0);", 5},
		{"cover c : any(past(past(2'1)));", 4},
	} {
		wantFits(t, bits(256-x.many, x.items))
		wantBig(t, bits(257-x.many, x.items))
	}
	wantFits(t, "module t() { "+many(16, "reg r%d : 16 = 0;")+"}")
	wantBig(t, "module t() { "+many(17, "reg r%d : 16 = 0;")+"}")
}

// J1: 16 properties may be, 17 are too many, of the top and of instances.
func TestProperties(t *testing.T) {
	all := many(6, "cover c%d : 1'1;") + many(5, "assert a%d : 1'0;") + many(5, "assume s%d : 1'1;")
	if n := wantFits(t, "module t() { "+all+"}"); len(n.Props) != 16 {
		t.Errorf("there are %d properties; want 16", len(n.Props))
	}
	for _, kind := range []string{"assert", "assume", "cover"} {
		wantBig(t, "module t() { "+all+kind+" z : 1'1; }")
	}
	inner := "module u() { " + many(5, "cover c%d : 1'1;") + "} "
	wantFits(t, inner+"module t() { inst a u(); cover z : 1'1; inst b u(); inst c u(); }")
	wantBig(t, inner+"module t() { inst a u(); cover z : 1'1; inst b u(); inst c u(); cover y : 1'1; }")
	wantBig(t, inner+"module t() { inst a u(); inst b u(); inst c u(); inst d u(); }")
}

// J1: where a design has a fault, that is told, however big it is besides.
func TestBigBesideFaults(t *testing.T) {
	bad := "module bad() { wire w : 2 = 1'1; } module round() { wire w : 1 = w; } "
	for _, text := range []string{nodes(4030, "", "inst last x();"), cells(256, "reg q : 1 = 1; inst last x();"), bits(260, "inst last x();"),
		"module t() { " + many(17, "cover c%d : 1'1;") + "inst last x(); }"} {
		wantFaults(t, bad+strings.Replace(text, "last x()", "last bad()", 1), fault(api.ErrWidth, 0, 0))
		wantFaults(t, bad+strings.Replace(text, "last x()", "last round()", 1), fault(api.ErrRound, 1, 0))
		wantBig(t, "module x() { } "+text)
	}
}

// chain is an expression with so many others of an Op within one another.
func chain(op, deep int, e api.Expr) api.Expr {
	for range deep {
		e = of(op, e)
	}
	return e
}

func top(items ...api.Item) api.Design {
	return api.Design{Modules: []api.Module{{Name: "t", Items: items}}}
}

func wire(e api.Expr) api.Item {
	return api.Item{Kind: api.Wire, Name: "w", Wid: api.Dim{N: 1}, E: e}
}

// LANGUAGE's rule 4: no call panics, and each ends, also of designs of which nothing is said: expressions that are too deep,
// or stand in many places, or within themselves, and more of anything than may be written.
func TestOddDesigns(t *testing.T) {
	bit := api.Expr{Op: api.Lit, Wid: api.Dim{N: 1}}
	for _, op := range []int{api.Inv, api.RedOr, api.Past} {
		for _, deep := range []int{255, 256, 257, 3999, 4000, 4001, 1000000} {
			if op == api.Past && deep > 4000 {
				// Of each Past that is met the width is asked for, which goes through all that is left.
				break
			}
			n, faults := elab.Elab(top(wire(chain(op, deep, bit))))
			fits := deep <= 256 || deep <= 3999 && op != api.Past
			if fits != (len(faults) == 0) || fits && len(n.Nodes) != deep+1 {
				t.Errorf("%d of Op %d: %v, %d nodes", deep, op, faults, len(n.Nodes))
			}
		}
	}
	shared := bit
	for range 70 {
		shared = of(api.And, shared, shared)
	}
	within := of(api.Inv, bit)
	within.Kids[0] = within
	ring := of(api.And, bit, bit)
	ring.Kids[1] = of(api.Past, ring)
	for _, e := range []api.Expr{shared, within, ring, of(api.Past, shared), of(api.Past, ring), {}, {Op: 99}, {Op: api.Mux}} {
		items := []api.Item{wire(e), {Kind: api.Cover, Name: "c", E: e}, {Kind: api.Mem, Name: "m", Wid: api.Dim{N: 1}, Val: api.Dim{N: 1}},
			{Kind: api.Put, Name: "m", At: e, E: e, If: e}, {Kind: 99}}
		for _, it := range items {
			if n, faults := elab.Elab(top(items[2], it)); len(faults) == 0 || !net.Same(n, api.Net{}) {
				t.Errorf("Op %d in an item of kind %d: %v", e.Op, it.Kind, faults)
			}
		}
	}
	wide := api.Module{Name: "u"}
	inst := api.Item{Kind: api.Inst, Name: "i", Mod: "u"}
	for i := range 100 {
		name := "n" + fmt.Sprint(i)
		wide.Params = append(wide.Params, name)
		wide.Ports = append(wide.Ports, api.Port{In: i%2 == 0, Name: "p" + name, Wid: api.Dim{Name: name}})
		inst.Args = append(inst.Args, api.Dim{N: 1 + i%20})
	}
	d := api.Design{Modules: []api.Module{wide, {Name: "t", Ports: slices.Repeat([]api.Port{{In: true, Name: "a", Wid: api.Dim{N: 1}}}, 70), Items: []api.Item{inst}}}}
	for range 3 {
		elab.Elab(d)
		d.Modules[1].Ports = d.Modules[1].Ports[:1]
		d.Modules[1].Items[0].Args = inst.Args[:50]
		d.Modules[0].Params = wide.Params[:50]
		d.Modules[0].Ports = nil
	}
}

// The same of designs that are spoilt, so that they may be anything.
func TestOddFields(t *testing.T) {
	for seed := range int64(1500) {
		r := newMaker(seed)
		d := r.design()
		for range 1 + r.Intn(8) {
			pick(r, r.spoil, r.bend)(&d)
			if len(d.Modules) == 0 {
				break
			}
			if n, faults := elab.Elab(d); len(faults) > 0 && !net.Same(n, api.Net{}) {
				t.Fatalf("seed %d: %+v has faults %v, and a net", seed, d, faults)
			}
		}
	}
}

func BenchmarkElab(b *testing.B) {
	d := newMaker(5).design()
	for b.Loop() {
		elab.Elab(d)
	}
}
