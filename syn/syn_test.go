package syn_test

import (
	"slices"
	"strings"
	"testing"

	"proofmark/api"
	"proofmark/syn"
)

// alike holds modules against each other, where an empty row is none.
func alike(a, b []api.Module) bool { return slices.EqualFunc(a, b, sameModule) }

func sameModule(a, b api.Module) bool {
	return a.Name == b.Name && slices.Equal(a.Params, b.Params) && slices.Equal(a.Ports, b.Ports) &&
		slices.EqualFunc(a.Items, b.Items, sameItem)
}

func sameItem(a, b api.Item) bool {
	return a.Kind == b.Kind && a.Name == b.Name && a.Wid == b.Wid && a.Val == b.Val && a.Mod == b.Mod &&
		slices.Equal(a.Args, b.Args) && slices.EqualFunc(a.Binds, b.Binds, sameBind) &&
		sameExpr(a.E, b.E) && sameExpr(a.At, b.At) && sameExpr(a.If, b.If)
}

func sameBind(a, b api.Bind) bool { return a.Port == b.Port && sameExpr(a.E, b.E) }

func sameExpr(a, b api.Expr) bool {
	return a.Op == b.Op && a.Val == b.Val && a.Wid == b.Wid && a.Hi == b.Hi && a.Lo == b.Lo && a.Name == b.Name &&
		slices.EqualFunc(a.Kids, b.Kids, sameExpr)
}

// brief keeps a failure's line short: some texts have 20000 bytes.
func brief(s string) string {
	if len(s) > 300 {
		return s[:300] + ".."
	}
	return s
}

func ref(name string) api.Expr { return api.Expr{Op: api.Ref, Name: name} }

func num(n int) api.Dim { return api.Dim{N: n} }

func dim(name string, n int) api.Dim { return api.Dim{Name: name, N: n} }

func lit(wid, val api.Dim) api.Expr { return api.Expr{Op: api.Lit, Wid: wid, Val: val} }

func of(op int, kids ...api.Expr) api.Expr { return api.Expr{Op: op, Kids: kids} }

func slice(e api.Expr, hi, lo api.Dim) api.Expr {
	return api.Expr{Op: api.Slice, Hi: hi, Lo: lo, Kids: []api.Expr{e}}
}

func read(name string, e api.Expr) api.Expr {
	return api.Expr{Op: api.Read, Name: name, Kids: []api.Expr{e}}
}

func word(at int) api.Fault { return api.Fault{Err: api.ErrWord, At: at} }

func big(at int) api.Fault { return api.Fault{Err: api.ErrBig, At: at} }

func end(at int) api.Fault { return api.Fault{Err: api.ErrEnd, At: at} }

func wantDesign(t *testing.T, s string, modules ...api.Module) {
	t.Helper()
	d, f := syn.Parse(s)
	if len(f) != 0 || !alike(d.Modules, modules) {
		t.Errorf("Parse(%q) = %+v, %v; want %+v", brief(s), d, f, modules)
	}
}

func wantFaults(t *testing.T, s string, want ...api.Fault) {
	t.Helper()
	if _, f := syn.Parse(s); !slices.Equal(f, want) {
		t.Errorf("Parse(%q): faults %v; want %v", brief(s), f, want)
	}
}

// kept tells a design by the names of its modules and their items: `m(x y) n()`.
func kept(d api.Design) string {
	var l []string
	for _, m := range d.Modules {
		var names []string
		for _, it := range m.Items {
			names = append(names, it.Name)
		}
		l = append(l, m.Name+"("+strings.Join(names, " ")+")")
	}
	return strings.Join(l, " ")
}

func wantKept(t *testing.T, s string, want string, faults ...api.Fault) {
	t.Helper()
	d, f := syn.Parse(s)
	if kept(d) != want || !slices.Equal(f, faults) {
		t.Errorf("Parse(%q): %s, %v; want %s, %v", brief(s), kept(d), f, want, faults)
	}
}

// B1: the words are written out again, so that one that the program lacks is missed.
var keptWords = strings.Fields("module in out wire reg mem inst assert assume cover next put if any all past at")

func TestWords(t *testing.T) {
	for _, s := range keptWords {
		if !syn.Word(s) {
			t.Errorf("B1: %q is kept", s)
		}
		for _, other := range []string{s + "x", "x" + s, s + " ", " " + s, s[:len(s)-1], strings.ToUpper(s), s + s} {
			if syn.Word(other) != slices.Contains(keptWords, other) {
				t.Errorf("B1: Word(%q) = %t", other, syn.Word(other))
			}
		}
	}
	for _, s := range []string{"", "a", "_", "drive", "else", "then", "output", "xor", "<=", "0", "\x00"} {
		if syn.Word(s) {
			t.Errorf("B1: %q is not kept", s)
		}
	}
}

// P2.1: the chapter's examples.
func TestExamples(t *testing.T) {
	wantDesign(t, "module m(in a : 1) { assert p : a; }", api.Module{
		Name:  "m",
		Ports: []api.Port{{In: true, Name: "a", Wid: num(1)}},
		Items: []api.Item{{Kind: api.Assert, Name: "p", E: ref("a")}},
	})

	s := "module m() { wire x 1; cover c : 1'1; }"
	d, f := syn.Parse(s)
	want := api.Module{Name: "m", Items: []api.Item{{Kind: api.Cover, Name: "c", E: lit(num(1), num(1))}}}
	if !slices.Equal(f, []api.Fault{word(20)}) || !alike(d.Modules, []api.Module{want}) {
		t.Errorf("Parse(%q) = %+v, %v", s, d, f)
	}

	wantKept(t, "module m() {", "", end(12))
}

// B2: an empty text is a design, a text that lex refuses has its fault alone.
func TestNoTokens(t *testing.T) {
	wantDesign(t, "")
	wantDesign(t, " \n\t// module m(")
	wantKept(t, "@", "", api.Fault{Err: api.ErrText, At: 0})
	wantKept(t, "module m() {} x y z !", "", api.Fault{Err: api.ErrText, At: 20})
	wantKept(t, "module m() { wire 00; } ; ;", "", api.Fault{Err: api.ErrText, At: 18})
	wantKept(t, "module m() { reg r : 65536 = 0; }", "", api.Fault{Err: api.ErrText, At: 21})
	full := "module m() {}" + strings.Repeat(" ", 20000-13)
	wantKept(t, full, "m()")
	wantKept(t, full+" ", "", big(0))
	wantKept(t, strings.Repeat("@", 20001), "", big(0))
}

// B2, B3: modules, their params and ports.
func TestModules(t *testing.T) {
	wantDesign(t, "module m() {}", api.Module{Name: "m"})
	wantDesign(t, "module m(){}module n(){}module m(){}",
		api.Module{Name: "m"}, api.Module{Name: "n"}, api.Module{Name: "m"})
	wantDesign(t, "module m<P>() {}", api.Module{Name: "m", Params: []string{"P"}})
	wantDesign(t, "module m<P, Q, P, R>(in a : P, out b : Q+65535, in c : 0, out a : R + 0) {}", api.Module{
		Name:   "m",
		Params: []string{"P", "Q", "P", "R"},
		Ports: []api.Port{
			{In: true, Name: "a", Wid: dim("P", 0)},
			{Name: "b", Wid: dim("Q", 65535)},
			{In: true, Name: "c", Wid: num(0)},
			{Name: "a", Wid: dim("R", 0)},
		},
	})
}

// B2, B3: each item, with all of its fields.
func TestItems(t *testing.T) {
	for _, x := range []struct {
		s    string
		want api.Item
	}{
		{"wire x : 4 = a;", api.Item{Kind: api.Wire, Wid: num(4), E: ref("a")}},
		{"wire x : P+1 = u.o;", api.Item{Kind: api.Wire, Wid: dim("P", 1), E: ref("u.o")}},
		{"reg x : 4 = 9;", api.Item{Kind: api.Reg, Wid: num(4), Val: num(9)}},
		{"reg x : P = Q+2;", api.Item{Kind: api.Reg, Wid: dim("P", 0), Val: dim("Q", 2)}},
		{"mem x[8] : 4;", api.Item{Kind: api.Mem, Val: num(8), Wid: num(4)}},
		{"mem x[P+3] : Q;", api.Item{Kind: api.Mem, Val: dim("P", 3), Wid: dim("Q", 0)}},
		{"inst x m();", api.Item{Kind: api.Inst, Mod: "m"}},
		{"inst x m<3>();", api.Item{Kind: api.Inst, Mod: "m", Args: []api.Dim{num(3)}}},
		{"inst x m(a : b);", api.Item{Kind: api.Inst, Mod: "m", Binds: []api.Bind{{Port: "a", E: ref("b")}}}},
		{"inst x m<P, 2, Q+1>(a : b, c : ~d, a : 1'0);", api.Item{
			Kind: api.Inst, Mod: "m",
			Args:  []api.Dim{dim("P", 0), num(2), dim("Q", 1)},
			Binds: []api.Bind{{Port: "a", E: ref("b")}, {Port: "c", E: of(api.Inv, ref("d"))}, {Port: "a", E: lit(num(1), num(0))}},
		}},
		{"assert x : a;", api.Item{Kind: api.Assert, E: ref("a")}},
		{"assume x : a;", api.Item{Kind: api.Assume, E: ref("a")}},
		{"cover x : a;", api.Item{Kind: api.Cover, E: ref("a")}},
		{"next x = a;", api.Item{Kind: api.Next, E: ref("a")}},
		{"out x = a;", api.Item{Kind: api.Drive, E: ref("a")}},
		{"put x[a] = b if c;", api.Item{Kind: api.Put, At: ref("a"), E: ref("b"), If: ref("c")}},
		{"put x[a ? b : c] = d ? e : f if g ? h : i;", api.Item{
			Kind: api.Put,
			At:   of(api.Mux, ref("a"), ref("b"), ref("c")),
			E:    of(api.Mux, ref("d"), ref("e"), ref("f")),
			If:   of(api.Mux, ref("g"), ref("h"), ref("i")),
		}},
	} {
		x.want.Name = "x"
		wantDesign(t, "module m() { "+x.s+" }", api.Module{Name: "m", Items: []api.Item{x.want}})
		wantDesign(t, "module m() { "+x.s+x.s+" }", api.Module{Name: "m", Items: []api.Item{x.want, x.want}})
	}
}

// B2, B3: each rule of exprs, and how they bind.
func TestExprs(t *testing.T) {
	a, b, c, d, e := ref("a"), ref("b"), ref("c"), ref("d"), ref("e")
	for _, x := range []struct {
		s    string
		want api.Expr
	}{
		{"a", a},
		{"a.b", ref("a.b")},
		{"a . b", ref("a.b")},
		{"(((a)))", a},
		{"4'9", lit(num(4), num(9))},
		{"P'9", lit(dim("P", 0), num(9))},
		{"4'P", lit(num(4), dim("P", 0))},
		{"P'Q", lit(dim("P", 0), dim("Q", 0))},
		{"P'Q+a", of(api.Add, lit(dim("P", 0), dim("Q", 0)), a)},
		{"65535'0", lit(num(65535), num(0))},
		{"a ? b : c", of(api.Mux, a, b, c)},
		{"a ? b : c ? d : e", of(api.Mux, a, b, of(api.Mux, c, d, e))},
		{"a ? b ? c : d : e", of(api.Mux, a, of(api.Mux, b, c, d), e)},
		{"(a ? b : c) ? d : e", of(api.Mux, of(api.Mux, a, b, c), d, e)},
		{"a | b ? c | d : d | e", of(api.Mux, of(api.Or, a, b), of(api.Or, c, d), of(api.Or, d, e))},
		{"{a, b}", of(api.Cat, a, b)},
		{"{a ? b : c, {d, e}}", of(api.Cat, of(api.Mux, a, b, c), of(api.Cat, d, e))},
		{"any(a)", of(api.RedOr, a)},
		{"all(a)", of(api.RedAnd, a)},
		{"past(a)", of(api.Past, a)},
		{"past(a ? b : c)", of(api.Past, of(api.Mux, a, b, c))},
		{"at(m, a)", read("m", a)},
		{"at(m, a ? b : c)[1]", slice(read("m", of(api.Mux, a, b, c)), num(1), num(1))},
		{"~a", of(api.Inv, a)},
		{"~~a", of(api.Inv, of(api.Inv, a))},
		{"~a[1]", of(api.Inv, slice(a, num(1), num(1)))},
		{"(~a)[1]", slice(of(api.Inv, a), num(1), num(1))},
		{"a[3:1]", slice(a, num(3), num(1))},
		{"a[P+3:Q]", slice(a, dim("P", 3), dim("Q", 0))},
		{"a[P+3]", slice(a, dim("P", 3), dim("P", 3))},
		{"a[P+0]", slice(a, dim("P", 0), dim("P", 0))},
		{"a[3:1][0]", slice(slice(a, num(3), num(1)), num(0), num(0))},
		{"a.b[1]", slice(ref("a.b"), num(1), num(1))},
		{"2'1[1]", slice(lit(num(2), num(1)), num(1), num(1))},
		{"{a, b}[1]", slice(of(api.Cat, a, b), num(1), num(1))},
		{"past(a)[1]", slice(of(api.Past, a), num(1), num(1))},
		{"a == b", of(api.Eq, a, b)},
		{"a != b", of(api.Ne, a, b)},
		{"a < b", of(api.Lt, a, b)},
		{"a <= b", of(api.Le, a, b)},
		{"(a == b) == c", of(api.Eq, of(api.Eq, a, b), c)},
		{"a < (b < c)", of(api.Lt, a, of(api.Lt, b, c))},
		{"a == b & c == d", of(api.And, of(api.Eq, a, b), of(api.Eq, c, d))},
		{"a + b - c", of(api.Sub, of(api.Add, a, b), c)},
		{"a - b + c", of(api.Add, of(api.Sub, a, b), c)},
		{"a - (b - c)", of(api.Sub, a, of(api.Sub, b, c))},
		{"a * b * c", of(api.Mul, of(api.Mul, a, b), c)},
		{"a * ~b", of(api.Mul, a, of(api.Inv, b))},
		{"~a * b", of(api.Mul, of(api.Inv, a), b)},
		{"a | b | c", of(api.Or, of(api.Or, a, b), c)},
		{"a ^ b ^ c", of(api.Xor, of(api.Xor, a, b), c)},
		{"a & b & c", of(api.And, of(api.And, a, b), c)},
	} {
		wantDesign(t, "module m() { next x = "+x.s+"; }",
			api.Module{Name: "m", Items: []api.Item{{Kind: api.Next, Name: "x", E: x.want}}})
	}
}

// B2: any two signs between three exprs: the closer one first, else the left one.
func TestEachPairOfSigns(t *testing.T) {
	rows := [][]string{{"|"}, {"^"}, {"&"}, {"==", "!=", "<", "<="}, {"+", "-"}, {"*"}}
	ops := map[string]int{"|": api.Or, "^": api.Xor, "&": api.And, "==": api.Eq, "!=": api.Ne, "<": api.Lt, "<=": api.Le,
		"+": api.Add, "-": api.Sub, "*": api.Mul}
	a, b, c := ref("a"), ref("b"), ref("c")
	for i, row := range rows {
		for j, other := range rows {
			for _, x := range row {
				for _, y := range other {
					s := "module m() { next x = a" + x + "b" + y + "c; }"
					if i == 3 && j == 3 {
						wantKept(t, s, "m()", word(24+len(x)))
						continue
					}
					want := of(ops[y], of(ops[x], a, b), c)
					if i < j {
						want = of(ops[x], a, of(ops[y], b, c))
					}
					wantDesign(t, s, api.Module{Name: "m", Items: []api.Item{{Kind: api.Next, Name: "x", E: want}}})
				}
			}
		}
	}
}

// B2: a kept word is no NAME, wherever one must stand.
func TestKeptWordsAsNames(t *testing.T) {
	for _, form := range []string{
		"module #() {}", "module m<#>() {}", "module m<P, #>() {}", "module m(in #: 1) {}", "module m(in a : #) {}",
		"module m(in a : P, out #: 1) {}",
		"module m() { wire #: 1 = a; }", "module m() { reg #: 1 = 0; }", "module m() { mem #[1] : 1; }",
		"module m() { inst #m(); }", "module m() { inst u #(); }", "module m() { inst u m<#>(); }",
		"module m() { inst u m(#: b); }", "module m() { inst u m(a : b, #: b); }",
		"module m() { assert #: a; }", "module m() { assume #: a; }", "module m() { cover #: a; }",
		"module m() { next #= a; }", "module m() { out #= a; }", "module m() { put #[a] = a if a; }",
		"module m() { wire x : # = a; }", "module m() { reg x : 1 = #; }", "module m() { mem x[#] : 1; }",
		"module m() { next x = a.#; }", "module m() { next x = 1'#; }", "module m() { next x = at(#, a); }",
		"module m() { next x = a[#]; }", "module m() { next x = a[1:#]; }",
	} {
		at := strings.Index(form, "#")
		wantFaults(t, strings.Replace(form, "#", "in0 ", 1))
		for _, s := range keptWords {
			_, f := syn.Parse(strings.Replace(form, "#", s+" ", 1))
			if len(f) == 0 || f[0] != word(at) {
				t.Errorf("B2: %s in %q: %v; want first %v", s, form, f, word(at))
			}
		}
	}
}
