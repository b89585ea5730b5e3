package width_test

import (
	"testing"

	"proofmark/api"
	"proofmark/width"
)

// P6.1, F2: a wire is as wide as its expression; an error of its own width is ahead of that of E.
func TestWire(t *testing.T) {
	wantItem(t, "", "wire w : 3 = a;", api.OK)
	wantItem(t, "", "wire w : 2 = a;", api.ErrWidth)
	wantItem(t, "", "wire w : 4 = a;", api.ErrWidth)
	wantItem(t, "", "wire w : 16 = 16'65535;", api.OK)
	wantItem(t, "", "wire w : 3 = a & b;", api.ErrWidth)
	wantItem(t, "", "wire w : 3 = 3'8;", api.ErrRange)
	for _, w := range []string{"0", "17", "65535"} {
		wantItem(t, "", "wire w : "+w+" = a;", api.ErrRange)
		wantItem(t, "", "wire w : "+w+" = a & b;", api.ErrRange)
	}
	wantItem(t, "", "wire w : 4 = 3'8;", api.ErrRange)
}

// P6.1, F2: a register's Val, just below 2 to its width, and just that.
func TestReg(t *testing.T) {
	for w := 1; w <= 16; w++ {
		d := api.Design{Modules: []api.Module{{Name: "top"}}}
		for _, n := range []int{0, 1, 1<<w - 1, 1 << w, 1<<w + 1, 65535} {
			d.Modules[0].Items = []api.Item{{Kind: api.Reg, Name: "r", Wid: api.Dim{N: w}, Val: api.Dim{N: n}}}
			if n < 1<<w {
				wantFaults(t, "a register", d, 0, nil)
			} else {
				wantFaults(t, "a register", d, 0, nil, at(api.ErrRange, 0, 0))
			}
		}
	}
	wantItem(t, "", "reg r : 0 = 0;", api.ErrRange)
	wantItem(t, "", "reg r : 17 = 0;", api.ErrRange)
	d := parsed(t, "module low<n, k>() { reg r : n = k; reg s : k = n; reg q : n = n+65535; } module top() { }")
	wantFaults(t, "registers", d, 0, []int{3, 7}, at(api.ErrRange, 0, 2))
	wantFaults(t, "registers", d, 0, []int{3, 8}, at(api.ErrRange, 0, 0), at(api.ErrRange, 0, 2))
	wantFaults(t, "registers", d, 0, []int{4, 2}, at(api.ErrRange, 0, 1), at(api.ErrRange, 0, 2))
	wantFaults(t, "registers", d, 0, []int{16, 16}, at(api.ErrRange, 0, 2))
}

// P6.1, F2: a memory has 1 to 8 words.
func TestMem(t *testing.T) {
	for n, want := range map[string]api.Errno{
		"0": api.ErrRange, "1": api.OK, "2": api.OK, "7": api.OK, "8": api.OK, "9": api.ErrRange, "65535": api.ErrRange,
	} {
		wantItem(t, "", "mem m["+n+"] : 1;", want)
		wantItem(t, "", "mem m["+n+"] : 16;", want)
		wantItem(t, "", "mem m["+n+"] : 17;", api.ErrRange)
		wantItem(t, "", "mem m["+n+"] : 0;", api.ErrRange)
	}
	d := parsed(t, "module low<n, k>() { mem m[n] : k; } module top() { }")
	for n := range 12 {
		for k := range 20 {
			if n >= 1 && n <= 8 && k >= 1 && k <= 16 {
				wantFaults(t, "a memory", d, 0, []int{n, k})
			} else {
				wantFaults(t, "a memory", d, 0, []int{n, k}, at(api.ErrRange, 0, 0))
			}
		}
	}
}

// P6.1, F2: a Next is as wide as its register, wherever that stands.
func TestNext(t *testing.T) {
	wantItem(t, "reg r : 3 = 1; ", "next r = a;", api.OK)
	wantItem(t, "reg r : 3 = 1; ", "next r = r + a;", api.OK)
	wantItem(t, "reg r : 3 = 1; ", "next r = b;", api.ErrWidth)
	wantItem(t, "reg r : 3 = 1; ", "next r = 3'8;", api.ErrRange)
	wantItem(t, "reg r : 3 = 1; ", "next r = 5'32;", api.ErrRange)
	wantItem(t, "reg r : 3 = 1; ", "next r = a + b;", api.ErrWidth)
	wantTop(t, "module top(in a : 3) { next r = a; reg r : 3 = 0; next r = {a, a}; }", at(api.ErrWidth, 0, 2))
	// What is wrong with a register's width is so ahead of E; what is wrong with its Val is so of it alone.
	wantTop(t, "module top(in a : 3) { reg r : 17 = 0; next r = a & 1'1; reg s : 2 = 4; next s = 2'1; }",
		at(api.ErrRange, 0, 0), at(api.ErrRange, 0, 1), at(api.ErrRange, 0, 2))
}

// P6.1, F2: a Drive is as wide as its port; an error of that is the module's own, and each Drive's.
func TestDrive(t *testing.T) {
	wantItem(t, "", "out o = a;", api.OK)
	wantItem(t, "", "out o = b;", api.ErrWidth)
	wantItem(t, "", "out o = 3'8;", api.ErrRange)
	wantItem(t, "", "out o = 5'32;", api.ErrRange)
	wantTop(t, "module top(out o : 0, out q : 1) { out q = 1'1; out o = 1'1 & 2'1; out o = 1'1; }",
		at(api.ErrRange, 0, -1), at(api.ErrRange, 0, 1), at(api.ErrRange, 0, 2))
}

// P6.1, F2: of a Put the memory's width, then the errors of At, E, If, then what is not alike.
func TestPut(t *testing.T) {
	for _, c := range []struct {
		put  string
		want api.Errno
	}{
		{"put m[a] = 2'3 if c;", api.OK},
		{"put m[b] = 2'3 if c;", api.OK},
		{"put m[16'9] = at(m, a) if a == a;", api.OK},
		{"put m[a] = 3'3 if c;", api.ErrWidth},
		{"put m[a] = 1'1 if c;", api.ErrWidth},
		{"put m[a] = 2'3 if a;", api.ErrWidth},
		{"put m[a] = 3'3 if a;", api.ErrWidth},
		{"put m[3'8] = 3'3 if a;", api.ErrRange},
		{"put m[3'8] = a + b if c;", api.ErrRange},
		{"put m[a + b] = 2'4 if c;", api.ErrWidth},
		{"put m[a + b] = 2'3 if c;", api.ErrWidth},
		{"put m[a] = 2'4 if a + b;", api.ErrRange},
		{"put m[a] = a + b if 1'2;", api.ErrWidth},
		{"put m[a] = 3'3 if 1'2;", api.ErrRange},
		{"put m[a] = 2'3 if 1'2;", api.ErrRange},
		{"put m[a] = 2'3 if a + b;", api.ErrWidth},
	} {
		wantItem(t, "mem m[4] : 2; ", c.put, c.want)
	}
	wantTop(t, "module top(in a : 3) { mem m[4] : 0; put m[a & 1'1] = a if a; mem k[9] : 3; put k[a] = a if 1'1; }",
		at(api.ErrRange, 0, 0), at(api.ErrRange, 0, 1), at(api.ErrRange, 0, 2))
}

// P6.1, F2: a property is 1 wide.
func TestProperties(t *testing.T) {
	for _, word := range []string{"assert", "assume", "cover"} {
		wantItem(t, "", word+" p : c;", api.OK)
		wantItem(t, "", word+" p : 1'0;", api.OK)
		wantItem(t, "", word+" p : a < 3'7;", api.OK)
		wantItem(t, "", word+" p : a;", api.ErrWidth)
		wantItem(t, "", word+" p : {c, c};", api.ErrWidth)
		wantItem(t, "", word+" p : 1'2;", api.ErrRange)
		wantItem(t, "", word+" p : 3'8;", api.ErrRange)
		wantItem(t, "", word+" p : a == b;", api.ErrWidth)
	}
}

// P6.1, F2: an instance's Args, then the first of its Binds that is wrong, in their order, not that of the ports.
func TestInst(t *testing.T) {
	for _, c := range []struct {
		inst string
		want api.Errno
	}{
		{"inst u flat(a : a);", api.OK},
		{"inst u flat(a : b);", api.ErrWidth},
		{"inst u flat(a : 3'8);", api.ErrRange},
		{"inst u low<3, 4>(a : a, b : b, c : c);", api.OK},
		{"inst u low<3, 4>(c : c, b : b, a : a);", api.OK},
		{"inst u low<5, 2>(a : b, b : a, c : c);", api.OK},
		{"inst u low<4, 3>(a : a, b : b, c : c);", api.ErrWidth},
		{"inst u low<3, 5>(a : a, b : b, c : c);", api.ErrWidth},
		{"inst u low<3, 4>(a : a, b : b, c : a);", api.ErrWidth},
		{"inst u low<3, 4>(a : b, b : 5'32, c : c);", api.ErrWidth},
		{"inst u low<3, 4>(b : 5'32, a : b, c : c);", api.ErrRange},
		{"inst u low<3, 4>(c : 1'2, a : a, b : a);", api.ErrRange},
		{"inst u low<3, 4>(c : a, a : 3'8, b : b);", api.ErrWidth},
		{"inst u low<3, 4>(c : c, a : 3'8, b : a);", api.ErrRange},
		{"inst u low<3, 4>(c : c, a : a & b, b : 5'32);", api.ErrWidth},
		// A port's width is ahead of its E, and behind the Binds ahead of it.
		{"inst u low<0, 4>(a : a & b, b : b, c : c);", api.ErrRange},
		{"inst u low<17, 4>(a : a & b, b : b, c : c);", api.ErrRange},
		{"inst u low<0, 4>(b : a, a : a, c : c);", api.ErrWidth},
		{"inst u low<0, 4>(b : b, a : a & b, c : c);", api.ErrRange},
		{"inst u low<3, 16>(a : b, b : b, c : c);", api.ErrWidth},
		{"inst u low<3, 16>(b : b, a : b, c : c);", api.ErrRange},
		{"inst u low<3, 65535>(b : b, a : b, c : c);", api.ErrRange},
		{"inst u low<3, 65535>(a : b, b : b, c : c);", api.ErrWidth},
	} {
		wantItem(t, "", c.inst, c.want)
	}
}

// P6.1, F2: of an instance only Args, and the ports that are bound, count: not what its module says else.
func TestInstAlone(t *testing.T) {
	// The port that goes out is 17 wide: no fault of the instance, but of whoever refers to it.
	wantTop(t, `module low<n>(in a : 1, out q : n) { wire w : 3 = 2'1; out q = 1'0; }
module top() { inst u low<17>(a : 1'1); wire w : 1 = u.q; inst v low<3>(a : 1'0); wire x : 3 = v.q; wire y : 2 = v.q; }`,
		at(api.ErrRange, 0, 1), at(api.ErrWidth, 0, 4))
}

// P6.1, F2: Args that have an error are ahead of all Binds; and are one of whoever refers to the instance.
func TestInstArgs(t *testing.T) {
	d := parsed(t, `module low<n, k>(in a : 3, out q : 2) { out q = 2'1; }
module mid<n>(in a : 4) {
  inst u low<n+65535, 1>(a : a);
  wire w : 2 = u.q;
  inst v low<1, n+65534>(a : a[2:0]);
  wire x : 2 = v.q;
  assert p : v.q[0];
  assert q : u.q[0];
}
module top() { }`)
	wantFaults(t, "Args", d, 1, []int{0}, at(api.ErrWidth, 1, 0))
	wantFaults(t, "Args", d, 1, []int{1}, at(api.ErrRange, 1, 0), at(api.ErrRange, 1, 1), at(api.ErrRange, 1, 5))
	wantFaults(t, "Args", d, 1, []int{2}, at(api.ErrRange, 1, 0), at(api.ErrRange, 1, 1), at(api.ErrRange, 1, 2),
		at(api.ErrRange, 1, 3), at(api.ErrRange, 1, 4), at(api.ErrRange, 1, 5))
}

// P6.1, F2: an instance of a module that has parameters of the same names as where it stands: those are its own.
func TestInstOwnParameters(t *testing.T) {
	d := parsed(t, `module low<n, k>(in a : n, in b : k, out q : n+1) { }
module mid<k, n>(in a : n, in b : k) { inst u low<k, n>(a : b, b : a); wire w : k+1 = u.q; wire x : n+1 = u.q; }
module top() { }`)
	wantFaults(t, "parameters", d, 1, []int{3, 5}, at(api.ErrWidth, 1, 2))
	wantFaults(t, "parameters", d, 1, []int{5, 5})
	wantFaults(t, "parameters", d, 1, []int{5, 3}, at(api.ErrWidth, 1, 2))
}

// P6.1, F2: of ports at most one fault, of Item -1, ahead of all; of the others it is whose names they are.
func TestPorts(t *testing.T) {
	wantTop(t, "module top(in a : 1, in b : 16) { }")
	wantTop(t, "module top(in a : 0, in b : 16) { }", at(api.ErrRange, 0, -1))
	wantTop(t, "module top(in a : 1, in b : 17) { }", at(api.ErrRange, 0, -1))
	wantTop(t, "module top(in a : 17, out b : 0, in c : 65535) { wire w : 1 = 1'1; }", at(api.ErrRange, 0, -1))
	wantTop(t, "module top(in a : 1, out b : 17) { wire w : 1 = a; }", at(api.ErrRange, 0, -1))
	wantTop(t, "module top(in a : 1, in b : 17) { wire v : 2 = a; wire w : 1 = b; wire x : 1 = a; }",
		at(api.ErrRange, 0, -1), at(api.ErrWidth, 0, 0), at(api.ErrRange, 0, 1))
	d := parsed(t, "module low<n, k>(in a : n, out b : k+1, in c : k) { } module top() { }")
	for n := range 19 {
		for k := range 19 {
			if n >= 1 && n <= 16 && k >= 1 && k <= 15 {
				wantFaults(t, "ports", d, 0, []int{n, k})
			} else {
				wantFaults(t, "ports", d, 0, []int{n, k}, at(api.ErrRange, 0, -1))
			}
		}
	}
}

// P6.1, F2: a module without ports, without items, without Params, and with none of them.
func TestEmptyModules(t *testing.T) {
	d := parsed(t, "module none() { } module ports(in a : 3, out b : 2) { } module params<n>() { } module items() { wire w : 2 = 2'1; } module top(in a : 17) { }")
	wantFaults(t, "none", d, 0, nil)
	wantFaults(t, "none", d, 0, []int{})
	wantFaults(t, "ports", d, 1, nil)
	wantFaults(t, "params", d, 2, []int{65535})
	wantFaults(t, "items", d, 3, nil)
	wantFaults(t, "the top", d, 4, nil, at(api.ErrRange, 4, -1))
	wantOf(t, d, 0, nil, lit(3, 7), 3, api.OK)
	wantOf(t, d, 2, []int{3}, exprOf(t, "n'7"), 3, api.OK)
}

// P6.1, F2: each kind of item, in one module, of parameters.
func TestWhole(t *testing.T) {
	d := parsed(t, inner)
	far, big := at(api.ErrRange, 2, 5), at(api.ErrWidth, 2, 6)
	wantFaults(t, "inner", d, 2, []int{0}, at(api.ErrRange, 2, -1), at(api.ErrRange, 2, 0), at(api.ErrRange, 2, 2),
		at(api.ErrRange, 2, 3), at(api.ErrRange, 2, 5), at(api.ErrRange, 2, 6))
	for n := 1; n <= 8; n++ {
		if n+12 > 16 {
			big.Err = api.ErrRange
		}
		wantFaults(t, "inner", d, 2, []int{n}, far, big)
	}
	wantFaults(t, "inner", d, 2, []int{9}, at(api.ErrRange, 2, 2), far, big)
	wantFaults(t, "inner", d, 2, []int{14}, at(api.ErrRange, 2, 1), at(api.ErrRange, 2, 2),
		at(api.ErrRange, 2, 3), far, big)
	wantFaults(t, "inner", d, 3, nil)
}

// Beyond the rule P1: nothing is said of other modules, vals, names, kinds and Kids, but nothing panics.
func TestNoPanic(t *testing.T) {
	d := parsed(t, inner)
	for _, module := range []int{-1 << 63, -1, 4, 1<<63 - 1} {
		if w, err := width.Of(d, module, nil, bits(1)); w != 0 || err == api.OK {
			t.Errorf("Of module %d = %d, %d", module, w, err)
		}
		width.Check(d, module, nil)
	}
	for _, vals := range [][]int{nil, {-1}, {1 << 40, 3}, {-1 << 63}, {1<<63 - 1}, {1, 2, 3}} {
		for module := range d.Modules {
			width.Check(d, module, vals)
			width.Of(d, module, vals, ref("x"))
		}
	}
	for _, name := range []string{"", ".", "x.", ".x", "u", "n", "none", "u.none", "u.a", "u.n", "o.o", "w.s", "u.s.s", "m"} {
		for op := -1; op <= 24; op++ {
			for kids := range 5 {
				e := api.Expr{Op: op, Name: name, Kids: make([]api.Expr, kids)}
				for i := range kids {
					e.Kids[i] = bits(1)
				}
				width.Of(d, 2, []int{3}, e)
			}
		}
		for kind := -1; kind <= 12; kind++ {
			it := api.Item{Kind: kind, Name: name, Mod: name, Binds: []api.Bind{{Port: name}}}
			width.Check(api.Design{Modules: []api.Module{{Items: []api.Item{it}}}}, 0, nil)
			it.Mod, it.E = "low", ref(name)
			d.Modules[3].Items = []api.Item{it}
			width.Check(d, 3, nil)
		}
	}
	width.Check(api.Design{}, 0, nil)
	width.Of(api.Design{}, 0, nil, api.Expr{})
}
