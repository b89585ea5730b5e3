package show_test

import (
	"strings"
	"testing"

	"proofmark/api"
	"proofmark/show"
	"proofmark/syn"
)

func ref(name string) api.Expr { return api.Expr{Op: api.Ref, Name: name} }

func num(n int) api.Dim { return api.Dim{N: n} }

func dim(name string, n int) api.Dim { return api.Dim{Name: name, N: n} }

func lit(wid, val api.Dim) api.Expr { return api.Expr{Op: api.Lit, Wid: wid, Val: val} }

func of(op int, kids ...api.Expr) api.Expr { return api.Expr{Op: op, Kids: kids} }

func slice(e api.Expr, hi, lo api.Dim) api.Expr {
	return api.Expr{Op: api.Slice, Hi: hi, Lo: lo, Kids: []api.Expr{e}}
}

func read(name string, e api.Expr) api.Expr {
	return api.Expr{Op: api.Read, Name: name, Kids: []api.Expr{e}}
}

func design(m ...api.Module) api.Design { return api.Design{Modules: m} }

func items(l ...api.Item) api.Design { return design(api.Module{Name: "m", Items: l}) }

func cover(e api.Expr) api.Item { return api.Item{Kind: api.Cover, Name: "c", E: e} }

func wantText(t *testing.T, d api.Design, want string) {
	t.Helper()
	if got := show.Text(d); got != want || !show.Right(d) {
		t.Errorf("%s: Text is %q, Right %t; want %q", brief(d), brief(got), show.Right(d), brief(want))
	}
	checkBack(t, d)
}

func wantWrong(t *testing.T, why string, d api.Design) {
	t.Helper()
	if show.Right(d) || show.Text(d) != "" {
		t.Errorf("%s: %s: Right is %t, Text %q", why, brief(d), show.Right(d), brief(show.Text(d)))
	}
}

// An expr is right or wrong by itself, and in a design.
func wantExpr(t *testing.T, e api.Expr, want string) {
	t.Helper()
	if got := show.Expr(e); got != want {
		t.Errorf("Expr(%s) = %q; want %q", brief(e), brief(got), brief(want))
	}
	wantText(t, items(cover(e)), "module m() {\n  cover c : "+want+";\n}\n")
}

func wantWrongExpr(t *testing.T, why string, e api.Expr) {
	t.Helper()
	if got := show.Expr(e); got != "" {
		t.Errorf("%s: Expr(%s) = %q", why, brief(e), brief(got))
	}
	wantWrong(t, why, items(cover(e)))
}

// The chapter's examples.
func TestExamples(t *testing.T) {
	a, b, c := ref("a"), ref("b"), ref("c")
	wantExpr(t, of(api.Or, of(api.And, a, b), c), "a & b | c")
	wantExpr(t, of(api.And, of(api.Or, a, b), c), "(a | b) & c")
	wantExpr(t, of(api.Sub, a, of(api.Sub, b, c)), "a - (b - c)")
	wantExpr(t, slice(of(api.Inv, a), num(3), num(1)), "(~a)[3:1]")
}

// C4: each Op.
func TestOps(t *testing.T) {
	a, b, c := ref("a"), ref("b"), ref("c")
	for want, e := range map[string]api.Expr{
		"4'9": lit(num(4), num(9)), "W'9": lit(dim("W", 0), num(9)), "4'N": lit(num(4), dim("N", 0)), "0'0": lit(num(0), num(0)),
		"a": a, "u.p": ref("u.p"), "~a": of(api.Inv, a),
		"a | b": of(api.Or, a, b), "a ^ b": of(api.Xor, a, b), "a & b": of(api.And, a, b),
		"a == b": of(api.Eq, a, b), "a != b": of(api.Ne, a, b), "a < b": of(api.Lt, a, b), "a <= b": of(api.Le, a, b),
		"a + b": of(api.Add, a, b), "a - b": of(api.Sub, a, b), "a * b": of(api.Mul, a, b),
		"a ? b : c": of(api.Mux, a, b, c), "{a, b}": of(api.Cat, a, b),
		"a[3]": slice(a, num(3), num(3)), "a[3:1]": slice(a, num(3), num(1)), "a[P+1]": slice(a, dim("P", 1), dim("P", 1)),
		"a[P+1:P]": slice(a, dim("P", 1), dim("P", 0)), "a[P:0]": slice(a, dim("P", 0), num(0)), "a[0]": slice(a, num(0), num(0)),
		"any(a)": of(api.RedOr, a), "all(a)": of(api.RedAnd, a), "past(a)": of(api.Past, a), "at(m, a)": read("m", a),
	} {
		wantExpr(t, e, want)
	}
}

// C4: of each Op's places, one level below it stands in brackets, and its own does not.
func TestBrackets(t *testing.T) {
	// The loosest first; each has its level as its place.
	byLevel := []string{"x ? x : x", "x | x", "x ^ x", "x & x", "x == x", "x + x", "x * x", "~x", "x[0]", "{x, x}"}
	exprs := make([]api.Expr, len(byLevel))
	for i, s := range byLevel {
		d, f := syn.Parse("module m() { cover c : " + s + "; }")
		if len(f) != 0 {
			t.Fatal(s, f)
		}
		exprs[i] = d.Modules[0].Items[0].E
	}
	a := ref("a")
	for form, make := range map[string]func(e api.Expr) api.Expr{
		"~7":    func(e api.Expr) api.Expr { return of(api.Inv, e) },
		"1 | a": func(e api.Expr) api.Expr { return of(api.Or, e, a) }, "a | 2": func(e api.Expr) api.Expr { return of(api.Or, a, e) },
		"2 ^ a": func(e api.Expr) api.Expr { return of(api.Xor, e, a) }, "a ^ 3": func(e api.Expr) api.Expr { return of(api.Xor, a, e) },
		"3 & a": func(e api.Expr) api.Expr { return of(api.And, e, a) }, "a & 4": func(e api.Expr) api.Expr { return of(api.And, a, e) },
		"5 == a": func(e api.Expr) api.Expr { return of(api.Eq, e, a) }, "a == 5": func(e api.Expr) api.Expr { return of(api.Eq, a, e) },
		"5 != a": func(e api.Expr) api.Expr { return of(api.Ne, e, a) }, "a != 5": func(e api.Expr) api.Expr { return of(api.Ne, a, e) },
		"5 < a": func(e api.Expr) api.Expr { return of(api.Lt, e, a) }, "a < 5": func(e api.Expr) api.Expr { return of(api.Lt, a, e) },
		"5 <= a": func(e api.Expr) api.Expr { return of(api.Le, e, a) }, "a <= 5": func(e api.Expr) api.Expr { return of(api.Le, a, e) },
		"5 + a": func(e api.Expr) api.Expr { return of(api.Add, e, a) }, "a + 6": func(e api.Expr) api.Expr { return of(api.Add, a, e) },
		"5 - a": func(e api.Expr) api.Expr { return of(api.Sub, e, a) }, "a - 6": func(e api.Expr) api.Expr { return of(api.Sub, a, e) },
		"6 * a": func(e api.Expr) api.Expr { return of(api.Mul, e, a) }, "a * 7": func(e api.Expr) api.Expr { return of(api.Mul, a, e) },
		"1 ? a : a": func(e api.Expr) api.Expr { return of(api.Mux, e, a, a) },
		"a ? 0 : a": func(e api.Expr) api.Expr { return of(api.Mux, a, e, a) },
		"a ? a : 0": func(e api.Expr) api.Expr { return of(api.Mux, a, a, e) },
		"{0, a}":    func(e api.Expr) api.Expr { return of(api.Cat, e, a) }, "{a, 0}": func(e api.Expr) api.Expr { return of(api.Cat, a, e) },
		"8[P]":   func(e api.Expr) api.Expr { return slice(e, dim("P", 0), dim("P", 0)) },
		"any(0)": func(e api.Expr) api.Expr { return of(api.RedOr, e) }, "all(0)": func(e api.Expr) api.Expr { return of(api.RedAnd, e) },
		"past(0)": func(e api.Expr) api.Expr { return of(api.Past, e) }, "at(m, 0)": func(e api.Expr) api.Expr { return read("m", e) },
	} {
		at := strings.IndexAny(form, "0123456789")
		least := int(form[at] - '0')
		for level, e := range exprs {
			kid := byLevel[level]
			if level < least {
				kid = "(" + kid + ")"
			}
			wantExpr(t, make(e), form[:at]+kid+form[at+1:])
		}
	}
}

// wholeText has each rule of C5.
const wholeText = `module a<P, Q>(in i : P, out o : Q+1) {
  reg r : 4 = 3;
  reg s : P+2 = Q+1;
  mem m[8] : P;
  mem n[P+1] : 2;
  wire w : 1 = i ? r : s;
  inst u b<2, P+1, Q>(x : i | r, y : r);
  inst v b();
  inst w b<1>();
  inst x b(x : i);
  next r = i + r;
  out o = r;
  put m[i] = r if i;
  put m[i ? r : s] = i ? r : s if i ? r : s;
  assert p : i;
  assume q : i;
  cover s : i;
}
module z() {
}
module b<P>() {
}
module b(out x : 0) {
}
module b(in x : 65535, in y : P) {
  cover a : b;
}
`

// C5: each Kind, and lists of none, one and more.
func TestWhole(t *testing.T) {
	d, f := syn.Parse(wholeText)
	if len(f) != 0 {
		t.Fatal(f)
	}
	wantText(t, d, wholeText)
	wantText(t, design(), "")
	wantText(t, api.Design{Modules: []api.Module{}}, "")
}

// C5: without syn, so that a fault that both have is told.
func TestItems(t *testing.T) {
	a, b, c := ref("a"), ref("b"), ref("c")
	for want, it := range map[string]api.Item{
		"wire x : P+1 = a":           {Kind: api.Wire, Name: "x", Wid: dim("P", 1), E: a},
		"reg x : 2 = 3":              {Kind: api.Reg, Name: "x", Wid: num(2), Val: num(3)},
		"mem x[3] : 2":               {Kind: api.Mem, Name: "x", Wid: num(2), Val: num(3)},
		"inst x y()":                 {Kind: api.Inst, Name: "x", Mod: "y"},
		"inst x y<1, P>(a : b)":      {Kind: api.Inst, Name: "x", Mod: "y", Args: []api.Dim{num(1), dim("P", 0)}, Binds: []api.Bind{{Port: "a", E: b}}},
		"inst x y(a : b, c : b)":     {Kind: api.Inst, Name: "x", Mod: "y", Binds: []api.Bind{{Port: "a", E: b}, {Port: "c", E: b}}},
		"assert x : a":               {Kind: api.Assert, Name: "x", E: a},
		"assume x : a":               {Kind: api.Assume, Name: "x", E: a},
		"cover x : a":                {Kind: api.Cover, Name: "x", E: a},
		"next x = a":                 {Kind: api.Next, Name: "x", E: a},
		"out x = a":                  {Kind: api.Drive, Name: "x", E: a},
		"put x[a] = b if c":          {Kind: api.Put, Name: "x", At: a, E: b, If: c},
		"wire x : 0 = a ? b : c":     {Kind: api.Wire, Name: "x", E: of(api.Mux, a, b, c)},
		"inst x y(p : a ? b : c)":    {Kind: api.Inst, Name: "x", Mod: "y", Binds: []api.Bind{{Port: "p", E: of(api.Mux, a, b, c)}}},
		"reg x : 0 = 0":              {Kind: api.Reg, Name: "x"},
		"reg x : 65535 = P+65535":    {Kind: api.Reg, Name: "x", Wid: num(65535), Val: dim("P", 65535)},
		"inst x y<0, 0, 0, 65535>()": {Kind: api.Inst, Name: "x", Mod: "y", Args: []api.Dim{3: num(65535)}},
	} {
		wantText(t, items(it), "module m() {\n  "+want+";\n}\n")
		wantText(t, items(it, it), "module m() {\n  "+want+";\n  "+want+";\n}\n")
	}
}

// C5: heads of modules.
func TestHeads(t *testing.T) {
	for want, m := range map[string]api.Module{
		"module m() {\n}\n":                         {Name: "m"},
		"module m<P>() {\n}\n":                      {Name: "m", Params: []string{"P"}},
		"module m<P, P, Q, R>() {\n}\n":             {Name: "m", Params: []string{"P", "P", "Q", "R"}},
		"module m(in a : 1) {\n}\n":                 {Name: "m", Ports: []api.Port{{In: true, Name: "a", Wid: num(1)}}},
		"module m<P>(out a : P+9, in b : 0) {\n}\n": {Name: "m", Params: []string{"P"}, Ports: []api.Port{{Name: "a", Wid: dim("P", 9)}, {In: true, Name: "b"}}},
		"module m(out a : P, out a : 7) {\n}\n":     {Name: "m", Ports: []api.Port{{Name: "a", Wid: dim("P", 0)}, {Name: "a", Wid: num(7)}}},
	} {
		wantText(t, design(m), want)
		wantText(t, design(m, m, api.Module{Name: "n"}), want+want+"module n() {\n}\n")
	}
}
