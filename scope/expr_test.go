package scope_test

import (
	"testing"

	"proofmark/api"
)

// wantExpr looks at an expression, and at what it is part of.
func wantExpr(t *testing.T, e api.Expr, err api.Errno) {
	t.Helper()
	for _, e := range []api.Expr{e, of(api.Inv, e), of(api.Mux, one(), ref("w"), e), of(api.Cat, of(api.Past, e), one()), read("m", e)} {
		d := parsed(t, within(""))
		d.Modules[1].Items = append(d.Modules[1].Items, api.Item{Kind: api.Cover, Name: "y", E: e})
		if err == api.OK {
			wantFaults(t, "an expression", d)
		} else {
			wantFaults(t, "an expression", d, at(err, 1, firstItem))
		}
	}
}

// taken is how many Kids an Op takes.
var taken = [...]int{api.Lit: 0, api.Ref: 0, api.Inv: 1, api.RedOr: 1, api.RedAnd: 1, api.And: 2, api.Or: 2, api.Xor: 2, api.Add: 2,
	api.Sub: 2, api.Mul: 2, api.Eq: 2, api.Ne: 2, api.Lt: 2, api.Le: 2, api.Mux: 3, api.Cat: 2, api.Slice: 1, api.Read: 1, api.Past: 1}

// ofSo is a right expression, but for how many Kids it has.
func ofSo(op, kids int) api.Expr {
	e := api.Expr{Op: op}
	switch op {
	case api.Ref:
		e.Name = "w"
	case api.Read:
		e.Name = "m"
	}
	for range kids {
		e.Kids = append(e.Kids, one())
	}
	return e
}

// P5.1, E4: each Op with too few, as many, and too many Kids, by itself and nested.
func TestKids(t *testing.T) {
	for op := api.Lit; op <= api.Past; op++ {
		for kids := range 6 {
			want := api.ErrArg
			if kids == taken[op] {
				want = api.OK
			}
			wantExpr(t, ofSo(op, kids), want)
		}
		wantExpr(t, ofSo(op, 100), api.ErrArg)
	}
	// An empty row is none.
	wantExpr(t, api.Expr{Op: api.Ref, Name: "w", Kids: []api.Expr{}}, api.OK)
}

// P5.1, E4: an Op that is none has never as many Kids as it takes.
func TestNoOp(t *testing.T) {
	for _, op := range []int{-1 << 63, -1, 0, 21, 22, 23, 100, 1<<63 - 1} {
		for kids := range 4 {
			wantExpr(t, ofSo(op, kids), api.ErrArg)
		}
	}
	wantExpr(t, api.Expr{}, api.ErrArg)
}

// P5.1, E4: Names of a number's Dims, and of a slice's.
func TestExprParams(t *testing.T) {
	set := func(e api.Expr, field int, name string) api.Expr {
		*[]*api.Dim{&e.Wid, &e.Val, &e.Hi, &e.Lo}[field] = dim(name)
		return e
	}
	for op := api.Lit; op <= api.Past; op++ {
		right := ofSo(op, taken[op])
		for field := range 4 {
			for _, name := range []string{"x", "i", "w", "r", "m", "v", "p", "n", "low", "v.b"} {
				want := api.OK
				if op == api.Lit && field < 2 || op == api.Slice && field >= 2 {
					want = api.ErrParam
				}
				wantExpr(t, set(right, field, name), want)
			}
			wantExpr(t, set(right, field, "g"), api.OK)
			wantExpr(t, set(right, field, ""), api.OK)
		}
	}
}

// P5.1, E4: the Name of an Op that has none is not looked at.
func TestOtherNames(t *testing.T) {
	for op := api.Lit; op <= api.Past; op++ {
		e := ofSo(op, taken[op])
		if e.Name == "" {
			e.Name = "none"
			wantExpr(t, e, api.OK)
		}
	}
}

// P5.1, E4: what is read is a memory.
func TestRead(t *testing.T) {
	wantExpr(t, read("m", ref("i")), api.OK)
	for _, name := range []string{"g", "i", "o", "w", "r", "v"} {
		wantExpr(t, read(name, ref("i")), api.ErrKind)
	}
	for _, name := range []string{"p", "e", "h", "x", "", "a", "low", "v.b", "m."} {
		wantExpr(t, read(name, ref("i")), api.ErrNone)
	}
}

// P5.1, E4: a Ref without a dot is a port that goes in, a wire, or a register.
func TestRef(t *testing.T) {
	for _, name := range []string{"i", "w", "r"} {
		wantExpr(t, ref(name), api.OK)
	}
	for _, name := range []string{"g", "o", "m", "v"} {
		wantExpr(t, ref(name), api.ErrKind)
	}
	for _, name := range []string{"p", "e", "h", "x", "", "a", "b", "low", "mid", "I"} {
		wantExpr(t, ref(name), api.ErrNone)
	}
}

// P5.1, E4: a Ref with a dot is a port of an instance, that goes out; with two, or with an empty name, it is none.
func TestRefWithDot(t *testing.T) {
	wantExpr(t, ref("v.b"), api.OK)
	for _, name := range []string{"v.a", "v.c", "v.n", "v.k", "v.x", "v.o", "v.w", "v.", "v..", "v..b", ".", ".b", "..b", "v.b.", "v.b.b", "b.v", ".v.b",
		"x.b", "w.b", "r.b", "m.b", "i.b", "o.b", "g.b", "p.b", "low.b", "mid.b", "v b", "v.b "} {
		wantExpr(t, ref(name), api.ErrNone)
	}
}

// P5.1, E4: the instance is what stands ahead of the first dot, the port all behind it, whatever names there are.
func TestRefOddNames(t *testing.T) {
	outs := api.Module{Name: "u", Ports: []api.Port{{Name: "b.b"}, {Name: ""}, {In: true, Name: "c"}, {Name: "c"}}}
	top := api.Module{Name: "t", Items: []api.Item{
		{Kind: api.Inst, Name: "v", Mod: "u", Binds: []api.Bind{{Port: "c", E: one()}}},
		{Kind: api.Inst, Name: "", Mod: "u", Binds: []api.Bind{{Port: "c", E: one()}}},
		{Kind: api.Inst, Name: "v.b", Mod: "u", Binds: []api.Bind{{Port: "c", E: one()}}},
		{Kind: api.Wire, Name: "w.w", E: one()},
	}}
	for name, err := range map[string]api.Errno{"v.b.b": api.OK, "v.": api.OK, ".b.b": api.OK, ".": api.OK,
		"v.b": api.ErrNone, ".b": api.ErrNone, "v.c": api.ErrNone, "w.w": api.ErrNone, "v.b.": api.ErrNone, "": api.ErrKind} {
		m := top
		m.Items = append(m.Items[:4:4], api.Item{Kind: api.Cover, Name: "p", E: ref(name)})
		want := []api.Fault{at(api.ErrTwice, 0, -1)}
		if err != api.OK {
			want = append(want, at(err, 1, 4))
		}
		wantFaults(t, name, design(outs, m), want...)
	}
}

// P5.1, E4: what is no instance has no ports, even if it has a Mod.
func TestRefOfNoInstance(t *testing.T) {
	for kind := api.Wire; kind <= api.Cover; kind++ {
		it := api.Item{Kind: kind, Name: "y", Mod: "low", E: one()}
		switch kind {
		case api.Inst:
			continue
		case api.Next, api.Drive, api.Put:
			it.Name, it.At, it.If = map[int]string{api.Next: "r", api.Drive: "o", api.Put: "m"}[kind], one(), one()
		}
		d := parsed(t, within(""))
		d.Modules[1].Items = append(d.Modules[1].Items, it, api.Item{Kind: api.Cover, Name: "z", E: ref(it.Name + ".b")})
		wantFaults(t, "a port of no instance", d, at(api.ErrNone, 1, firstItem+1))
	}
}

// P5.1, E4: the instance's module is the first one of its name, wherever it stands; whether it may, is said of the instance.
func TestRefOfWrongInstance(t *testing.T) {
	wantText(t, "module a(out o : 1) { inst v a(); out o = v.o; }", at(api.ErrLoop, 0, 0))
	wantText(t, "module a(in i : 1) { inst v b(); cover p : v.o; cover q : v.i; } module b(in i : 1, out o : 1) { }",
		at(api.ErrLoop, 0, 0), at(api.ErrNone, 0, 2))
	wantText(t, "module a() { inst v none(); cover p : v.o; }", at(api.ErrNone, 0, 0), at(api.ErrNone, 0, 1))
	wantText(t, "module a(out o : 1) { } module a(out q : 1) { } module c() { inst v a(); cover p : v.o; cover q : v.q; }",
		at(api.ErrTwice, 1, -1), at(api.ErrNone, 2, 2))
	// An instance whose name stands twice: the first thing of that name counts, be it no instance.
	wantText(t, "module a(out o : 1) { } module b(out q : 1) { } module c() { inst v a(); inst v b(); cover p : v.o; cover q : v.q; }",
		at(api.ErrTwice, 2, 1), at(api.ErrNone, 2, 3))
	wantText(t, "module a(out o : 1) { } module c() { wire v : 1 = 1'1; inst v a(); cover p : v.o; }",
		at(api.ErrTwice, 1, 1), at(api.ErrNone, 1, 2))
	wantText(t, "module a(out o : 1) { } module c() { assert v : v.o; inst v a(); }", at(api.ErrTwice, 1, 1))
	wantText(t, "module a(in o : 1) { inst v b(); inst v a(o : o); out o = o; } module b(out o : 1) { }",
		at(api.ErrLoop, 0, 0), at(api.ErrTwice, 0, 1), at(api.ErrKind, 0, 2))
}

// P5.1, E4, and the rule P2: an expression is ahead of its Kids, these stand in order, and Kids' number is ahead of names.
func TestExprOrder(t *testing.T) {
	arg, none, kind := of(api.And, one()), ref("x"), ref("m")
	param := api.Expr{Op: api.Lit, Val: dim("x")}
	wantExpr(t, read("x", kind), api.ErrNone)
	wantExpr(t, read("w", none), api.ErrKind)
	wantExpr(t, read("w"), api.ErrArg)
	wantExpr(t, read("x", none, none), api.ErrArg)
	wantExpr(t, api.Expr{Op: api.Slice, Lo: dim("x"), Kids: []api.Expr{arg}}, api.ErrParam)
	wantExpr(t, api.Expr{Op: api.Slice, Hi: dim("x")}, api.ErrArg)
	wantExpr(t, api.Expr{Op: api.Lit, Wid: dim("x"), Kids: []api.Expr{none}}, api.ErrArg)
	wantExpr(t, api.Expr{Op: api.Ref, Name: "x", Kids: []api.Expr{kind}}, api.ErrArg)
	wantExpr(t, of(api.Inv, none, kind), api.ErrArg)
	all := map[api.Errno]api.Expr{api.OK: one(), api.ErrArg: arg, api.ErrNone: none, api.ErrKind: kind, api.ErrParam: param}
	for a, x := range all {
		for b, y := range all {
			for c, z := range all {
				want := c
				for _, err := range []api.Errno{b, a} {
					if err != api.OK {
						want = err
					}
				}
				wantExpr(t, of(api.Mux, x, y, z), want)
				// What is deep in the first Kid is ahead of the second one.
				wantExpr(t, of(api.Cat, of(api.Inv, of(api.Xor, x, y)), z), want)
				wantExpr(t, of(api.Cat, x, of(api.Cat, of(api.Past, y), z)), want)
			}
		}
	}
}

// The rule P1: an expression may be deeper than calls can be.
func TestDeep(t *testing.T) {
	e := ref("x")
	for range 3000000 {
		e = of(api.Inv, e)
	}
	m := api.Module{Items: []api.Item{{Kind: api.Cover, Name: "c", E: e}}}
	wantFaults(t, "a deep expression", design(m), at(api.ErrNone, 0, 0))
}

// The rule P1: a row of Kids may stand in many places, or within itself, and the call ends.
func TestEndless(t *testing.T) {
	cover := func(e api.Expr) api.Design {
		return design(api.Module{Items: []api.Item{{Kind: api.Cover, Name: "c", E: e}}})
	}
	shared, wrong := one(), ref("x")
	for range 100 {
		shared, wrong = of(api.And, shared, shared), of(api.And, wrong, wrong)
	}
	wantFaults(t, "a row in many places", cover(shared))
	wantFaults(t, "a wrong one", cover(wrong), at(api.ErrNone, 0, 0))
	wantFaults(t, "a wrong one behind", cover(of(api.Cat, shared, of(api.Cat, shared, ref("x")))), at(api.ErrNone, 0, 0))
	round := []api.Expr{one(), one()}
	round[0] = api.Expr{Op: api.Or, Kids: round}
	wantFaults(t, "a row within itself", cover(api.Expr{Op: api.Or, Kids: round}))
	round[1] = read("x", one())
	wantFaults(t, "a wrong row within itself", cover(api.Expr{Op: api.Or, Kids: round}), at(api.ErrNone, 0, 0))
	// Rows that begin at one place, but are not as long, are two.
	kids := []api.Expr{one(), ref("x")}
	wantFaults(t, "a row, and more of it", cover(of(api.Cat, api.Expr{Op: api.Inv, Kids: kids[:1]}, api.Expr{Op: api.Or, Kids: kids})),
		at(api.ErrNone, 0, 0))
}
