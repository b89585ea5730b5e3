package scope_test

import (
	"testing"

	"proofmark/api"
)

// within is a module behind low, that has a name of each kind, and the items that are told behind them, from 7 on.
func within(items string) string {
	return lower + `module mid<g>(in i : 1, out o : 1) { wire w : 1 = i; reg r : 1 = 0; mem m[2] : 1;
  inst v low<1, 1>(a : i, c : i); assert p : i; assume e : i; cover h : i; ` + items + ` } module top() { }`
}

// firstItem is where the items of within begin.
const firstItem = 7

func wantItem(t *testing.T, item string, err api.Errno) {
	t.Helper()
	if err == api.OK {
		wantText(t, within(item))
	} else {
		wantText(t, within(item), at(err, 1, firstItem))
	}
}

// P5.1, E3: a name that stands twice, as that of a param, a port, and an item ahead, of each kind that has names.
func TestItemTwice(t *testing.T) {
	for _, name := range []string{"g", "i", "o", "w", "r", "m", "v", "p", "e", "h"} {
		for _, item := range []string{"wire " + name + " : 1 = i;", "reg " + name + " : 1 = 0;", "mem " + name + "[2] : 1;",
			"inst " + name + " low<1, 1>(a : i, c : i);", "assert " + name + " : i;", "assume " + name + " : i;", "cover " + name + " : i;"} {
			wantItem(t, item, api.ErrTwice)
		}
	}
	// Modules, and what stands in other ones, have names of their own.
	for _, name := range []string{"low", "mid", "top", "a", "n", "x"} {
		for _, item := range []string{"wire " + name + " : 1 = i;", "inst " + name + " low<1, 1>(a : i, c : i);", "cover " + name + " : i;"} {
			wantItem(t, item, api.OK)
		}
	}
}

// P5.1, E3: Next, Drive and Put have no names of their own, so that two may have one.
func TestItemWithoutName(t *testing.T) {
	wantText(t, within("next r = i; next r = w; out o = i; out o = w; put m[i] = i if i; put m[w] = w if w;"))
	wantText(t, "module m(out o : 1) { next r = o.p; reg r : 1 = 1; }", at(api.ErrNone, 0, 0))
	wantText(t, "module m(out o : 1) { next r = 1'1; reg r : 1 = 1; wire r : 1 = 1'1; }", at(api.ErrTwice, 0, 2))
	wantText(t, "module m() { wire x : 1 = 1'1; wire x : 1 = 1'1; wire x : 1 = 1'1; }", at(api.ErrTwice, 0, 1), at(api.ErrTwice, 0, 2))
	// A kind that is none has no name either.
	m := api.Module{Items: []api.Item{{Kind: 11, Name: "x"}, {Kind: api.Cover, Name: "x", E: one()}, {Kind: 11, Name: "x"}, {Kind: -1, Name: "x"}}}
	wantFaults(t, "kinds that are none", design(m), at(api.ErrKind, 0, 0), at(api.ErrKind, 0, 2), at(api.ErrKind, 0, 3))
}

// P5.1, E3: of Next, Drive and Put what is named.
func TestTargets(t *testing.T) {
	for _, name := range []string{"g", "i", "o", "w", "r", "m", "v", "p", "e", "h", "x", "low", "a"} {
		kind := api.ErrKind
		switch name {
		case "p", "e", "h", "x", "low", "a":
			kind = api.ErrNone
		}
		for right, item := range map[string]string{"r": "next " + name + " = i;", "o": "out " + name + " = i;", "m": "put " + name + "[i] = i if i;"} {
			if name == right {
				wantItem(t, item, api.OK)
			} else {
				wantItem(t, item, kind)
			}
		}
	}
	// What is named may stand behind.
	wantText(t, "module m() { next r = 1'1; put c[1'1] = 1'1 if 1'1; reg r : 1 = 1; mem c[1] : 1; }")
}

// P5.1, E3: a kind that is none.
func TestNoKind(t *testing.T) {
	for _, kind := range []int{-1 << 63, -1, 0, 11, 12, 20, 21, 22, 1<<63 - 1} {
		m := api.Module{Items: []api.Item{{Kind: kind, Name: "x", E: ref("none"), Wid: dim("none")}}}
		wantFaults(t, "a kind that is none", design(m), at(api.ErrKind, 0, 0))
	}
}

// P5.1, E3: an instance of no module, of its own, of one behind, of one ahead.
func TestInstanceModule(t *testing.T) {
	wantItem(t, "inst x none();", api.ErrNone)
	wantItem(t, "inst x w();", api.ErrNone)
	wantItem(t, "inst x mid<1>(i : i);", api.ErrLoop)
	wantItem(t, "inst x top();", api.ErrLoop)
	wantItem(t, "inst x low<1, 1>(a : i, c : i);", api.OK)
	wantText(t, "module a() { inst x a(); }", at(api.ErrLoop, 0, 0))
	wantText(t, "module a() { inst x b(); } module b() { inst x a(); }", at(api.ErrLoop, 0, 0))
	wantText(t, "module a() { } module b() { inst x a(); } module c() { inst x b(); inst y a(); }")
	// The module of a name is the first one, where two have it.
	wantText(t, "module a() { } module a(in i : 1) { inst x a(); } module c() { inst x a(); }", at(api.ErrTwice, 1, -1))
	wantText(t, "module b() { inst x a(); } module a() { } module a() { inst x a(); }", at(api.ErrLoop, 0, 0), at(api.ErrTwice, 2, -1))
	wantText(t, "module a<n>() { } module a() { } module c() { inst x a(); }", at(api.ErrTwice, 1, -1), at(api.ErrArg, 2, 0))
}

// P5.1, E3: as many, fewer and more Args.
func TestArgs(t *testing.T) {
	wantItem(t, "inst x low<g, g + 1>(a : i, c : i);", api.OK)
	wantItem(t, "inst x low(a : i, c : i);", api.ErrArg)
	wantItem(t, "inst x low<1>(a : i, c : i);", api.ErrArg)
	wantItem(t, "inst x low<1, 1, 1>(a : i, c : i);", api.ErrArg)
	wantText(t, "module a() { } module b() { inst x a<1>(); }", at(api.ErrArg, 1, 0))
}

// P5.1, E3: as many, fewer and more Binds; two of one port; one of a port that goes out, or is none.
func TestBinds(t *testing.T) {
	for _, binds := range []string{"", "a : i", "c : i", "b : i", "a : i, a : i", "c : i, c : i", "a : i, b : i", "a : i, x : i", "n : i, a : i",
		"a : i, c : i, c : i", "a : i, c : i, b : i", "a : i, c : i, x : i"} {
		wantItem(t, "inst x low<1, 1>("+binds+");", api.ErrPort)
	}
	wantItem(t, "inst x low<1, 1>(a : i, c : w);", api.OK)
	wantItem(t, "inst x low<1, 1>(c : i, a : w);", api.OK)
	wantText(t, "module a(out o : 1) { } module b() { inst x a(o : 1'1); }", at(api.ErrPort, 1, 0))
	wantText(t, "module a(out o : 1) { } module b() { inst x a(); }")
	// Of a module that has a port twice.
	wantText(t, "module a(in i : 1, in i : 1) { } module b() { inst x a(i : 1'1, i : 1'1); }", at(api.ErrTwice, 0, -1), at(api.ErrPort, 1, 0))
	wantText(t, "module a(in i : 1, in i : 1) { } module b() { inst x a(i : 1'1); }", at(api.ErrTwice, 0, -1), at(api.ErrPort, 1, 0))
	wantText(t, "module a(out i : 1, in i : 1) { } module b() { inst x a(i : 1'1); }", at(api.ErrTwice, 0, -1))
}

// P5.1, E3: Dims whose Name is no param's, in each place of each kind.
func TestItemParams(t *testing.T) {
	for _, name := range []string{"x", "i", "o", "w", "r", "m", "v", "p", "low", "n"} {
		for _, item := range []string{"wire y : " + name + " = i;", "reg y : " + name + " = 0;", "reg y : 1 = " + name + " + 1;",
			"mem y[" + name + "] : 1;", "mem y[1] : " + name + ";", "inst y low<" + name + ", 1>(a : i, c : i);", "inst y low<1, " + name + ">(a : i, c : i);"} {
			wantItem(t, item, api.ErrParam)
		}
	}
	for _, item := range []string{"wire y : g = i;", "reg y : g = g + 3;", "mem y[g] : g;", "inst y low<g, g>(a : i, c : i);"} {
		wantItem(t, item, api.OK)
	}
}

// P5.1, E3: fields that a kind does not have are not looked at.
func TestOtherFields(t *testing.T) {
	bad := api.Item{Wid: dim("x"), Val: dim("x"), Mod: "x", Args: []api.Dim{dim("x")}, Binds: []api.Bind{{Port: "x", E: ref("x")}},
		E: ref("x"), At: ref("x"), If: ref("x")}
	for kind := api.Wire; kind <= api.Cover; kind++ {
		it := bad
		it.Kind, it.Name = kind, "y"
		switch kind {
		case api.Wire:
			it.Wid, it.E = dim("g"), one()
		case api.Reg, api.Mem:
			it.Wid, it.Val = dim("g"), dim("g")
		case api.Next, api.Drive:
			it.Name, it.E = map[int]string{api.Next: "r", api.Drive: "o"}[kind], one()
		case api.Put:
			it.Name, it.At, it.E, it.If = "m", one(), one(), one()
		case api.Inst:
			it.Mod, it.Args, it.Binds = "low", []api.Dim{{}, {}}, []api.Bind{{Port: "a", E: one()}, {Port: "c", E: one()}}
		default:
			it.E = one()
		}
		d := parsed(t, within(""))
		d.Modules[1].Items = append(d.Modules[1].Items, it)
		wantFaults(t, "fields of others", d)
	}
}

// P5.1, E3, and the rule P2: which of several faults of one item is told.
func TestItemOrder(t *testing.T) {
	// The name is ahead of all.
	wantItem(t, "inst w none<x>(y : z);", api.ErrTwice)
	wantItem(t, "inst g top<x>(y : z);", api.ErrTwice)
	wantItem(t, "wire i : x = none;", api.ErrTwice)
	wantItem(t, "cover p : none;", api.ErrTwice)
	// Of an instance: that there is the module, that it stands ahead, its Args, its Binds, their Dims, what is bound.
	wantItem(t, "inst x none<x>(y : z);", api.ErrNone)
	wantItem(t, "inst x mid<x, x>(y : z);", api.ErrLoop)
	wantItem(t, "inst x low<x>(y : z);", api.ErrArg)
	wantItem(t, "inst x low<x, x>(y : z);", api.ErrPort)
	wantItem(t, "inst x low<1, x>(a : z, c : z);", api.ErrParam)
	wantItem(t, "inst x low<1, 1>(a : i, c : z);", api.ErrNone)
	// What is named is ahead of the expressions; so are Dims.
	wantItem(t, "next w = none;", api.ErrKind)
	wantItem(t, "next none = m;", api.ErrNone)
	wantItem(t, "put w[none] = none if none;", api.ErrKind)
	wantItem(t, "wire y : x = none;", api.ErrParam)
}

// P5.1, E3: of expressions that are wrong the first one is told: of Put At, E, If; of an instance as they are bound.
func TestExprsOrder(t *testing.T) {
	wrong := map[api.Errno]string{api.OK: "i", api.ErrNone: "x", api.ErrKind: "m", api.ErrParam: "x'1"}
	for a, at := range wrong {
		for b, e := range wrong {
			for c, when := range wrong {
				want := a
				for _, err := range []api.Errno{b, c} {
					if want == api.OK {
						want = err
					}
				}
				wantItem(t, "put m["+at+"] = "+e+" if "+when+";", want)
			}
			want := a
			if want == api.OK {
				want = b
			}
			wantItem(t, "inst y low<1, 1>(a : "+at+", c : "+e+");", want)
			wantItem(t, "inst y low<1, 1>(c : "+at+", a : "+e+");", want)
		}
		for _, head := range []string{"wire y : 1 =", "next r =", "out o =", "assert y :", "assume y :", "cover y :"} {
			wantItem(t, head+" "+at+";", a)
		}
	}
}
