package elab_test

import (
	"testing"

	"proofmark/api"
)

// The chapter's example.
func TestExample(t *testing.T) {
	wantNet(t, "module t(in a : 1) { reg r : 1 = 0; next r = a; cover c : past(r); }", api.Net{
		Nodes: []api.Node{{Op: api.In, W: 1}, {Op: api.State, W: 1}, {Op: api.State, W: 1}},
		Ins:   []api.Pin{{Name: "a", Node: 0}},
		Cells: []api.Cell{{Name: "r", Node: 1, Next: 0}, {Name: "past#0", Node: 2, Next: 1}},
		Props: []api.Prop{{Kind: api.Cover, Name: "c", Node: 2}},
		Names: []api.Pin{{Name: "a", Node: 0}, {Name: "r", Node: 1}},
	})
}

func TestLittle(t *testing.T) {
	wantNet(t, "module t() { }", api.Net{})
	wantNet(t, "module u(in a : 1) { assert p : b; wire b : 1 = a; } module t() { }", api.Net{})
	// In-ports of the top, with an out-port between them.
	wantNet(t, "module t(in a : 16, out o : 2, in b : 2) { out o = b; }", api.Net{
		Nodes: []api.Node{{Op: api.In, W: 16}, {Op: api.In, W: 2}},
		Ins:   []api.Pin{{Name: "a", Node: 0}, {Name: "b", Node: 1}},
		Names: []api.Pin{{Name: "a", Node: 0}, {Name: "b", Node: 1}, {Name: "o", Node: 1}},
	})
}

// J3: each op's node, of the widths of Kids; the same number twice is two nodes.
func TestOps(t *testing.T) {
	for _, x := range []struct{ expr, width, nodes string }{
		{"3'5", "3", "Lit3=5"},
		{"~a", "3", "Inv3(0)"},
		{"any(a)", "1", "RedOr1(0)/3"},
		{"all(a)", "1", "RedAnd1(0)/3"},
		{"a & b", "3", "And3(0,1)"},
		{"a | b", "3", "Or3(0,1)"},
		{"b ^ a", "3", "Xor3(1,0)"},
		{"a + b", "3", "Add3(0,1)"},
		{"b - a", "3", "Sub3(1,0)"},
		{"a * a", "3", "Mul3(0,0)"},
		{"a == b", "1", "Eq1(0,1)/3"},
		{"a != b", "1", "Ne1(0,1)/3"},
		{"b < a", "1", "Lt1(1,0)/3"},
		{"b <= a", "1", "Le1(1,0)/3"},
		{"c ? a : b", "3", "Mux3(2,0,1)"},
		{"{ c, a }", "4", "Cat4(2,0)"},
		{"{ a, c }", "4", "Cat4(0,2)"},
		{"a[0]", "1", "Slice1(0)[0:0]"},
		{"a[2]", "1", "Slice1(0)[2:2]"},
		{"a[2:0]", "3", "Slice3(0)[2:0]"},
		{"a[2:1]", "2", "Slice2(0)[2:1]"},
		{"a[2:1][0]", "1", "Slice2(0)[2:1] Slice1(3)[0:0]"},
		{"c[0]", "1", "Slice1(2)[0:0]"},
		{"1'1 & 1'1", "1", "Lit1=1 Lit1=1 And1(3,4)"},
		{"(a + b) + ~a", "3", "Add3(0,1) Inv3(0) Add3(3,4)"},
		{"any(a) ? b - a : 3'7", "3", "RedOr1(0)/3 Sub3(1,0) Lit3=7 Mux3(3,4,5)"},
	} {
		text := "module t(in a : 3, in b : 3, in c : 1) { wire w : " + x.width + " = " + x.expr + "; }"
		n := flat(t, text)
		wantText(t, x.expr, joined(n.Nodes, nodeText), "In3 In3 In1 "+x.nodes)
		if w := nodeOf(t, n, "w"); w != len(n.Nodes)-1 {
			t.Errorf("%s is node %d of %d", x.expr, w, len(n.Nodes))
		}
	}
	wantMade(t, "module t(in a : 3) { wire w : 3 = a; wire v : 3 = w; cover c : x; wire x : 1 = v == w; }", made{
		nodes: "In3 Eq1(0,0)/3", props: "cover-c@1", names: "a@0 w@0 v@0 x@1"})
}

// J2: wires, drivers and instances come behind what they hang on, and of what may come the first one first.
func TestOrder(t *testing.T) {
	wantMade(t, "module t(in a : 1, out o : 1) { out o = ~w; wire w : 1 = v & a; wire v : 1 = a ^ a; wire u : 1 = a | a; }", made{
		nodes: "In1 Xor1(0,0) And1(1,0) Inv1(2) Or1(0,0)", names: "a@0 v@1 w@2 o@3 u@4"})
	// An instance ahead of a wire that it hangs on, and a wire ahead of an instance that it hangs on.
	wantMade(t, "module u(in x : 1, out y : 1) { out y = ~x; } module t(in a : 1) { inst p u(x : w); wire z : 1 = q.y; wire w : 1 = a & a; inst q u(x : p.y); }", made{
		nodes: "In1 And1(0,0) Inv1(1) Inv1(2)", names: "a@0 w@1 p.x@1 p.y@2 q.x@2 q.y@3 z@3"})
}

// J2: binds' nodes are made as binds stand, and named as ports stand, as far as these go in.
func TestBinds(t *testing.T) {
	wantMade(t, `module u(in x : 1, out o : 1, in y : 2, out q : 2) { out q = y; out o = x ^ y[0]; }
		module t(in a : 2, in b : 1, out z : 2) { inst i u(y : a + a, x : ~b); assert p : i.o; out z = i.q; }`, made{
		nodes: "In2 In1 Add2(0,0) Inv1(1) Slice1(2)[0:0] Xor1(3,4)", props: "assert-p@5",
		names: "a@0 b@1 i.x@3 i.y@2 i.q@2 i.o@5 z@2"})
	// One port's node may be many things.
	wantMade(t, "module u(in x : 1, in y : 1, out o : 1) { out o = x; } module t(in a : 1) { inst i u(x : a, y : a); inst k u(x : i.o, y : i.o); wire w : 1 = k.o; }", made{
		nodes: "In1", names: "a@0 i.x@0 i.y@0 i.o@0 k.x@0 k.y@0 k.o@0 w@0"})
	// Names that are alike in an instance and around it have nothing to do with each other.
	wantMade(t, "module u(in a : 1, out b : 1) { wire c : 1 = ~a; out b = c; } module t(in b : 1, out a : 1) { wire c : 1 = ~u.b; inst u u(a : b); out a = c; }", made{
		nodes: "In1 Inv1(0) Inv1(1)", names: "b@0 u.a@0 u.c@1 u.b@1 c@2 a@2"})
}

// J2: registers stand ahead of all else of an instance, whatever stands ahead of them; what they are next comes last.
func TestRegs(t *testing.T) {
	wantMade(t, "module t(in a : 2) { next r = w; wire w : 2 = r + a; reg r : 2 = 3; reg s : 1 = 1; }", made{
		nodes: "In2 State2 State1 Add2(1,0)", cells: "r@1>3=3 s@2>2=1", names: "a@0 r@1 s@2 w@3"})
	// Nexts are made as items stand, not as registers do.
	wantMade(t, "module t(in a : 1) { reg r : 1 = 0; reg s : 1 = 0; next s = ~r; next r = ~s; }", made{
		nodes: "In1 State1 State1 Inv1(1) Inv1(2)", cells: "r@1>4=0 s@2>3=0", names: "a@0 r@1 s@2"})
	// Of an instance they come where it is made.
	wantMade(t, "module u(in x : 1) { next r = x; reg r : 1 = 1; } module t(in a : 1) { wire w : 1 = ~a; inst i u(x : w & a); wire z : 1 = a | a; reg r : 1 = 0; }", made{
		nodes: "In1 State1 Inv1(0) And1(2,0) State1 Or1(0,0)", cells: "r@1>1=0 i.r@4>3=1", names: "a@0 r@1 w@2 i.x@3 i.r@4 z@5"})
}

// P10.3: a register without a Next, and one whose Next is its own, stay what they were at first; others do not.
func TestStillRegs(t *testing.T) {
	text := "module t(in a : 1) { reg r : 4 = 9; reg s : 4 = 5; next s = s; reg u : 4 = 14; next u = u + 4'1; reg v : 1 = 1; next v = a; }"
	rows := [][]int{{0}, {1}, {0}, {1}}
	wantRun(t, text, "r", rows, 9, 9, 9, 9)
	wantRun(t, text, "s", rows, 5, 5, 5, 5)
	wantRun(t, text, "u", rows, 14, 15, 0, 1)
	wantRun(t, text, "v", rows, 1, 0, 1, 0)
	wantMade(t, "module t() { reg r : 4 = 9; reg s : 4 = 5; next s = s; }", made{
		nodes: "State4 State4", cells: "r@0>0=9 s@1>1=5", names: "r@0 s@1"})
}

// J2, J3: memories of one word, and of more words than the place has numbers, and of fewer.
func TestMems(t *testing.T) {
	wantMade(t, "module t(in i : 1, in d : 3) { mem m[1] : 3; put m[i] = d if ~i; wire q : 3 = at(m, i); }", made{
		nodes: "In1 In3 State3 Lit3=0 Lit1=0 Eq1(0,4)/1 Mux3(5,2,3) Inv1(0) Lit1=0 Eq1(0,8)/1 And1(7,9) Mux3(10,1,2)",
		cells: "m[0]@2>11=0", names: "i@0 d@1 m[0]@2 q@6"})
	wantMade(t, "module t(in i : 1) { mem m[3] : 2; put m[i] = 2'1 if i; wire q : 2 = at(m, ~i); }", made{
		nodes: "In1 State2 State2 State2 Inv1(0) Lit2=0 Lit1=0 Eq1(4,6)/1 Mux2(7,1,5) Lit1=1 Eq1(4,9)/1 Mux2(10,2,8) " +
			"Lit2=1 Lit1=0 Eq1(0,13)/1 And1(0,14) Mux2(15,12,1) Lit1=1 Eq1(0,17)/1 And1(0,18) Mux2(19,12,2)",
		cells: "m[0]@1>16=0 m[1]@2>20=0 m[2]@3>3=0", names: "i@0 m[0]@1 m[1]@2 m[2]@3 q@11"})
	wantMade(t, "module t(in i : 2) { mem m[2] : 1; wire q : 1 = at(m, i); }", made{
		nodes: "In2 State1 State1 Lit1=0 Lit2=0 Eq1(0,4)/2 Mux1(5,1,3) Lit2=1 Eq1(0,7)/2 Mux1(8,2,6)",
		cells: "m[0]@1>1=0 m[1]@2>2=0", names: "i@0 m[0]@1 m[1]@2 q@9"})
}

// P10.5: what is put is read at the next cycle, and words that are not meant stay.
func TestPuts(t *testing.T) {
	text := "module t(in i : 2, in d : 4, in e : 1) { mem m[3] : 4; put m[i] = d if e; wire q : 4 = at(m, i); }"
	rows := [][]int{{0, 7, 1}, {1, 9, 1}, {0, 5, 0}, {0, 6, 1}, {3, 15, 1}, {0, 0, 0}, {1, 0, 0}, {2, 3, 1}, {2, 0, 0}, {3, 0, 0}}
	wantRun(t, text, "q", rows, 0, 0, 7, 7, 0, 6, 9, 0, 3, 0)
	wantRun(t, text, "m[0]", rows, 0, 7, 7, 7, 6, 6, 6, 6, 6, 6)
	wantRun(t, text, "m[1]", rows, 0, 0, 9, 9, 9, 9, 9, 9, 9, 9)
	wantRun(t, text, "m[2]", rows, 0, 0, 0, 0, 0, 0, 0, 0, 3, 3)
	// Of two Puts at the same word the last one counts, if it puts something.
	twice := "module t(in e : 1, in f : 1) { put m[1'0] = 2'1 if e; mem m[2] : 2; put m[1'0] = 2'2 if f; }"
	wantRun(t, twice, "m[0]", [][]int{{1, 0}, {1, 1}, {0, 1}, {1, 0}, {0, 0}, {0, 0}}, 0, 1, 2, 2, 1, 1)
	wantRun(t, twice, "m[1]", [][]int{{1, 0}, {1, 1}, {0, 1}}, 0, 0, 0)
	// A Put whose If is 0 puts nothing, whatever it says.
	wantRun(t, "module t(in i : 1) { mem m[2] : 2; put m[i] = 2'3 if 1'0; }", "m[1]", [][]int{{1}, {1}, {0}}, 0, 0, 0)
	wantRun(t, "module t() { mem m[2] : 2; put m[1'1] = at(m, 1'1) + 2'1 if 1'1; }", "m[1]", idle(6), 0, 1, 2, 3, 0, 1)
	// Eight words, of which a place of one bit means two.
	wantRun(t, "module t(in i : 1) { mem m[8] : 1; put m[i] = 1'1 if 1'1; wire q : 1 = at(m, 3'2) | at(m, 3'7); }", "q", [][]int{{0}, {1}, {0}}, 0, 0, 0)
}

// J3, P10.4: a Past wherever one may stand; they are counted as they are met, of each instance by itself.
func TestPasts(t *testing.T) {
	wantMade(t, "module t(in a : 1) { reg r : 1 = 0; next r = past(a); }", made{
		nodes: "In1 State1 State1", cells: "r@1>2=0 past#0@2>0=0", names: "a@0 r@1"})
	wantMade(t, "module t(in a : 1) { assert p : past(a) ^ past(~a); }", made{
		nodes: "In1 State1 State1 Xor1(1,2) Inv1(0)", cells: "past#0@1>0=0 past#1@2>4=0", props: "assert-p@3", names: "a@0"})
	// Three of one another: each is met where the one around it is made.
	wantMade(t, "module t(in a : 1) { wire w : 1 = past(past(past(a))); wire v : 1 = past(a); }", made{
		nodes: "In1 State1 State1 State1 State1", cells: "past#0@1>3=0 past#1@2>0=0 past#2@3>4=0 past#3@4>0=0", names: "a@0 w@1 v@2"})
	wantMade(t, "module t(in a : 1) { put m[past(a)] = past(~a) if past(1'1); mem m[1] : 1; }", made{
		nodes: "In1 State1 State1 State1 State1 Lit1=0 Eq1(2,5)/1 And1(4,6) Mux1(7,3,1) Inv1(0) Lit1=1",
		cells: "m[0]@1>8=0 past#0@2>0=0 past#1@3>9=0 past#2@4>10=0", names: "a@0 m[0]@1"})
	// In a Bind's E it is of who binds, in the instance of that.
	wantMade(t, `module u(in x : 2, out y : 2) { out y = past(x); }
		module t(in a : 2) { inst i u(x : past(a)); inst k u(x : i.y); wire w : 2 = past(k.y); }`, made{
		nodes: "In2 State2 State2 State2 State2", cells: "past#0@1>0=0 i.past#0@2>1=0 k.past#0@3>2=0 past#1@4>3=0",
		names: "a@0 i.x@1 i.y@2 k.x@2 k.y@3 w@4"})
	// What it is the past of may be made behind it, or hang on it; its width is told without that.
	wantMade(t, "module t(in a : 3) { wire w : 2 = past(v); wire v : 2 = w ^ a[1:0]; }", made{
		nodes: "In3 State2 Slice2(0)[1:0] Xor2(1,2)", cells: "past#0@1>3=0", names: "a@0 w@1 v@3"})
}

func TestPastRuns(t *testing.T) {
	rows := [][]int{{1}, {0}, {1}, {1}, {0}, {0}}
	wantRun(t, "module t(in a : 1) { wire w : 1 = past(a); }", "w", rows, 0, 1, 0, 1, 1, 0)
	wantRun(t, "module t(in a : 1) { wire w : 1 = past(~a); }", "w", rows, 0, 0, 1, 0, 0, 1)
	wantRun(t, "module t(in a : 1) { wire w : 1 = past(past(a)); }", "w", rows, 0, 0, 1, 0, 1, 1)
	wantRun(t, "module t(in a : 1) { wire w : 2 = { past(a), past(past(~a)) }; }", "w", rows, 0, 2, 0, 3, 2, 0)
	wantRun(t, "module t(in a : 1) { reg r : 1 = 1; next r = past(a); }", "r", rows, 1, 0, 1, 0, 1, 1)
	wantRun(t, "module t(in a : 1) { reg r : 1 = 1; next r = a; wire w : 1 = past(r); }", "w", rows, 0, 1, 1, 0, 1, 1)
	wantRun(t, "module t(in a : 1) { mem m[2] : 1; put m[past(a)] = 1'1 if past(past(a)); }", "m[1]", rows, 0, 0, 0, 0, 0, 1)
	wantRun(t, "module u(in x : 1, out y : 1) { out y = x; } module t(in a : 1) { inst i u(x : past(a)); }", "i.y", rows, 0, 1, 0, 1, 1, 0)
	// A wire that counts: it hangs on what it was itself.
	wantRun(t, "module t() { wire w : 3 = past(w) + 3'3; }", "w", idle(5), 3, 6, 1, 4, 7)
}

// J2: what is put off is made behind all else of its instance, and ahead of what comes behind that.
func TestPastsOfInstances(t *testing.T) {
	wantMade(t, `module u(in x : 1, out y : 1) { out y = past(~x); assert p : past(y2); wire y2 : 1 = x; }
		module t(in a : 1) { wire w : 1 = ~i.y; inst i u(x : a); next r = ~w; reg r : 1 = 0; }`, made{
		nodes: "In1 State1 State1 State1 Inv1(0) Inv1(2) Inv1(5)", cells: "r@1>6=0 i.past#0@2>4=0 i.past#1@3>0=0",
		props: "assert-i.p@3", names: "a@0 r@1 i.x@0 i.y@2 i.y2@0 w@5"})
}

// J1, J2: params make widths, numbers, words and slices, in each instance its own.
func TestParams(t *testing.T) {
	wantMade(t, `module u<n, k>(in x : n+1, out y : n) { reg r : n = k; mem m[k+1] : n+2; out y = x[n:1] ^ r; wire l : k = k'1; wire s : 1 = x[k]; }
		module t(in a : 4) { inst p u<1, 1>(x : a[1:0]); inst q u<3, 2>(x : a); }`, made{
		nodes: "In4 Slice2(0)[1:0] State1 State3 State3 Slice1(1)[1:1] Xor1(5,2) Lit1=1 Slice1(1)[1:1] " +
			"State3 State5 State5 State5 Slice3(0)[3:1] Xor3(13,9) Lit2=1 Slice1(0)[2:2]",
		cells: "p.r@2>2=1 p.m[0]@3>3=0 p.m[1]@4>4=0 q.r@9>9=2 q.m[0]@10>10=0 q.m[1]@11>11=0 q.m[2]@12>12=0",
		names: "a@0 p.x@1 p.r@2 p.m[0]@3 p.m[1]@4 p.y@6 p.l@7 p.s@8 q.x@0 q.r@9 q.m[0]@10 q.m[1]@11 q.m[2]@12 q.y@14 q.l@15 q.s@16"})
	// Params are handed on, and made more of.
	wantMade(t, `module v<n>(in x : n) { reg r : n = n+1; wire w : 1 = past(x) == x; }
		module u<n>(in x : n) { inst i v<n+1>(x : {1'0, x}); inst k v<n>(x : x); }
		module t(in a : 2) { inst i u<2>(x : a); }`, made{
		nodes: "In2 Lit1=0 Cat3(1,0) State3 State3 Eq1(4,2)/3 State2 State2 Eq1(7,0)/2",
		cells: "i.i.r@3>3=4 i.i.past#0@4>2=0 i.k.r@6>6=3 i.k.past#0@7>0=0",
		names: "a@0 i.x@0 i.i.x@2 i.i.r@3 i.i.w@5 i.k.x@0 i.k.r@6 i.k.w@8"})
}

// J4: properties stand as items do, those of instances where these stand, though their nodes are made elsewhere.
func TestProps(t *testing.T) {
	wantMade(t, `module v(in x : 1) { assume e : x; }
		module u(in x : 1, out y : 1) { cover c : ~x; inst i v(x : x); out y = ~x; assert a : y2; wire y2 : 1 = x; }
		module t(in a : 1) { inst p u(x : q.y); assert z : ~p.y; inst q u(x : a); assume b : a; }`, made{
		nodes: "In1 Inv1(0) Inv1(0) Inv1(1) Inv1(1) Inv1(3)",
		props: "cover-p.c@4 assume-p.i.e@1 assert-p.a@1 assert-z@5 cover-q.c@2 assume-q.i.e@0 assert-q.a@0 assume-b@0",
		names: "a@0 q.x@0 q.i.x@0 q.y@1 q.y2@0 p.x@1 p.i.x@1 p.y@3 p.y2@1"})
	// A property's node is made where a Next's would be.
	wantMade(t, "module t(in a : 1) { assert p : ~a; next r = a & a; cover c : a | a; reg r : 1 = 0; wire w : 1 = a ^ a; }", made{
		nodes: "In1 State1 Xor1(0,0) Inv1(0) And1(0,0) Or1(0,0)", cells: "r@1>4=0", props: "assert-p@3 cover-c@5",
		names: "a@0 r@1 w@2"})
}

// P10.2: names, and cells, have their paths, however deep.
func TestPaths(t *testing.T) {
	n := flat(t, `module w(in i : 1) { reg r : 1 = 0; mem m[2] : 1; wire p : 1 = past(past(i)); cover c : p; }
		module v(in i : 1) { inst a w(i : i); inst b w(i : i); } module t(in i : 1) { inst x v(i : past(i)); }`)
	wantText(t, "names", namesOf(n.Names), "i x.i x.a.i x.a.r x.a.m[0] x.a.m[1] x.a.p x.b.i x.b.r x.b.m[0] x.b.m[1] x.b.p")
	wantText(t, "cells", cellsOf(n), "past#0 x.a.r x.a.m[0] x.a.m[1] x.a.past#0 x.a.past#1 x.b.r x.b.m[0] x.b.m[1] x.b.past#0 x.b.past#1")
	wantText(t, "properties", propsOf(n), "x.a.c x.b.c")
}
