package width_test

import (
	"slices"
	"testing"

	"proofmark/api"
	"proofmark/scope"
	"proofmark/show"
	"proofmark/syn"
	"proofmark/width"
)

func ref(name string) api.Expr { return api.Expr{Op: api.Ref, Name: name} }

func lit(w, n int) api.Expr {
	return api.Expr{Op: api.Lit, Wid: api.Dim{N: w}, Val: api.Dim{N: n}}
}

// bits is an expression of so many of them.
func bits(w int) api.Expr { return lit(w, 0) }

func of(op int, kids ...api.Expr) api.Expr { return api.Expr{Op: op, Kids: kids} }

func cut(e api.Expr, hi, lo api.Dim) api.Expr {
	return api.Expr{Op: api.Slice, Hi: hi, Lo: lo, Kids: []api.Expr{e}}
}

// Two that have errors of their own, to tell which one comes first.
func wrongRange() api.Expr { return lit(1, 2) }

func wrongWidth() api.Expr { return of(api.Add, bits(1), bits(2)) }

// parsed is a text's design, of which something is said: it may be written, and has no faults of names.
func parsed(t *testing.T, s string) api.Design {
	t.Helper()
	d, faults := syn.Parse(s)
	if len(faults) > 0 || !show.Right(d) || len(scope.Check(d)) > 0 {
		t.Fatalf("%q is no right text: %v, %v", s, faults, scope.Check(d))
	}
	return d
}

// exprOf is a text's expression.
func exprOf(t *testing.T, s string) api.Expr {
	t.Helper()
	d, faults := syn.Parse("module m() { assert p : " + s + "; }")
	if len(faults) > 0 {
		t.Fatalf("%q is no expression: %v", s, faults)
	}
	return d.Modules[0].Items[0].E
}

func wantOf(t *testing.T, d api.Design, module int, vals []int, e api.Expr, want int, wantErr api.Errno) {
	t.Helper()
	if w, err := width.Of(d, module, vals, e); w != want || err != wantErr {
		t.Errorf("Of(%d, %v, %q) = %d, %d; want %d, %d", module, vals, show.Expr(e), w, err, want, wantErr)
	}
}

func at(err api.Errno, mod, item int) api.Fault { return api.Fault{Err: err, Mod: mod, Item: item} }

func wantFaults(t *testing.T, why string, d api.Design, module int, vals []int, want ...api.Fault) {
	t.Helper()
	if got := width.Check(d, module, vals); !slices.Equal(got, want) {
		t.Errorf("%s, of %v: Check(%d) tells %v; want %v", why, vals, module, got, want)
	}
}

// wantTop holds a text's last module against faults, that are of it, and of these items.
func wantTop(t *testing.T, s string, want ...api.Fault) {
	t.Helper()
	d := parsed(t, s)
	for i := range want {
		want[i].Mod = len(d.Modules) - 1
	}
	wantFaults(t, s, d, len(d.Modules)-1, nil, want...)
}

// wantItem is of a module that has what is ahead, and then an item, which has this error, and is the only one with one.
func wantItem(t *testing.T, ahead, item string, want api.Errno) {
	t.Helper()
	d := parsed(t, base+"module top(in a : 3, in b : 5, in c : 1, out o : 3) { "+ahead+item+" }")
	items := d.Modules[len(d.Modules)-1].Items
	if want == api.OK {
		wantFaults(t, item, d, len(d.Modules)-1, nil)
		return
	}
	wantFaults(t, item, d, len(d.Modules)-1, nil, at(want, len(d.Modules)-1, len(items)-1))
}

// base has modules for others to stand on: one of no parameters, one of two.
const base = `module flat(in a : 3, out b : 5) { out b = {2'0, a}; }
module low<n, k>(in a : n, in b : k+1, in c : 1, out s : k+2, out q : n) { out s = {c, b}; out q = a; }
`

// inner is a module of one parameter, with all that has a width.
const inner = base + `module mid<n>(in x : n, in y : n+1, out o : n+2, out z : 3) {
  wire w : n+2 = {x, 2'1};
  reg r : n+3 = n;
  mem m[n] : 7;
  inst u low<n, n+4>(a : x, b : {x, 5'0}, c : x == x);
  inst f flat(a : 3'5);
  inst far low<n+65535, 1>(a : x, b : 2'0, c : 1'1);
  inst big low<n+12, 15>(a : x, b : 6'0, c : 1'1);
  out o = w;
  out z = 3'7;
}
module top(in a : 1) { }
`

// P6.1: the chapter's example.
func TestExample(t *testing.T) {
	d := parsed(t, "module top(in a : 2, in b : 3) { wire w : 5 = {a, b}; }")
	wantOf(t, d, 0, nil, exprOf(t, "{a, b}"), 5, api.OK)
	wantOf(t, d, 0, nil, exprOf(t, "{2'1, 3'1}"), 5, api.OK)
	wantFaults(t, "the example", d, 0, nil)
}

// P6.1, F1: a number, at the bounds of its width, and of widths.
func TestLit(t *testing.T) {
	d := parsed(t, inner)
	for w := 1; w <= 16; w++ {
		for _, n := range []int{0, 1, 1<<(w-1) - 1, 1 << (w - 1), 1<<w - 2, 1<<w - 1} {
			wantOf(t, d, 3, nil, lit(w, n), w, api.OK)
		}
		for _, n := range []int{1 << w, 1<<w + 1, 1 << 16, 1<<16 - 1 + 1<<w, -1, 1 << 40, -1 << 63, 1<<63 - 1} {
			wantOf(t, d, 3, nil, lit(w, n), 0, api.ErrRange)
		}
	}
	for _, w := range []int{0, 17, 18, 65535, 65536, -1} {
		wantOf(t, d, 3, nil, lit(w, 0), 0, api.ErrRange)
	}
}

// P6.1, F1: a number whose width, or whose value, is a parameter.
func TestLitOfParameter(t *testing.T) {
	d := parsed(t, inner)
	for n := 0; n <= 20; n++ {
		want, wantErr := n, api.OK
		if n < 1 || n > 16 {
			want, wantErr = 0, api.ErrRange
		}
		wantOf(t, d, 2, []int{n}, exprOf(t, "n'0"), want, wantErr)
		wantOf(t, d, 2, []int{n}, exprOf(t, "n'1"), want, wantErr)
		want, wantErr = 3, api.OK
		if n >= 8 {
			want, wantErr = 0, api.ErrRange
		}
		wantOf(t, d, 2, []int{n}, exprOf(t, "3'n"), want, wantErr)
	}
	wantOf(t, d, 2, []int{65535}, exprOf(t, "16'n"), 16, api.OK)
	wantOf(t, d, 2, []int{65535}, exprOf(t, "15'n"), 0, api.ErrRange)
	wantOf(t, d, 2, []int{4}, exprOf(t, "n'n"), 4, api.OK)
	wantOf(t, d, 1, []int{3, 7}, exprOf(t, "n'k"), 3, api.OK)
	wantOf(t, d, 1, []int{3, 8}, exprOf(t, "n'k"), 0, api.ErrRange)
	wantOf(t, d, 1, []int{8, 3}, exprOf(t, "k'n"), 0, api.ErrRange)
}

// P6.1, F1: each kind of signal, of parameters.
func TestRef(t *testing.T) {
	d := parsed(t, inner)
	for _, c := range []struct {
		name string
		more int
	}{{"x", 0}, {"y", 1}, {"w", 2}, {"r", 3}} {
		for n := 0; n <= 18; n++ {
			want, wantErr := n+c.more, api.OK
			if want < 1 || want > 16 {
				want, wantErr = 0, api.ErrRange
			}
			wantOf(t, d, 2, []int{n}, ref(c.name), want, wantErr)
		}
	}
	wantOf(t, d, 3, nil, ref("a"), 1, api.OK)
	wantOf(t, d, 0, nil, ref("a"), 3, api.OK)
	wantOf(t, d, 1, []int{9, 2}, ref("a"), 9, api.OK)
	wantOf(t, d, 1, []int{9, 2}, ref("b"), 3, api.OK)
}

// P6.1, F1: a port of an instance hangs on Args, which hang on the parameters where it stands.
func TestRefWithDot(t *testing.T) {
	d := parsed(t, inner)
	for n := 0; n <= 18; n++ {
		s, serr, q, qerr := n+6, api.OK, n, api.OK
		if s > 16 {
			s, serr = 0, api.ErrRange
		}
		if q < 1 || q > 16 {
			q, qerr = 0, api.ErrRange
		}
		wantOf(t, d, 2, []int{n}, ref("u.s"), s, serr)
		wantOf(t, d, 2, []int{n}, ref("u.q"), q, qerr)
		wantOf(t, d, 2, []int{n}, ref("f.b"), 5, api.OK)
	}
}

// P6.1, F1: an error of Args, or of a port's width alone.
func TestRefWithDotErrors(t *testing.T) {
	d := parsed(t, inner)
	wantOf(t, d, 2, []int{0}, ref("far.q"), 0, api.ErrRange)
	wantOf(t, d, 2, []int{1}, ref("far.q"), 0, api.ErrRange)
	wantOf(t, d, 2, []int{0}, ref("big.s"), 0, api.ErrRange)
	wantOf(t, d, 2, []int{0}, ref("big.q"), 12, api.OK)
	wantOf(t, d, 2, []int{4}, ref("big.q"), 16, api.OK)
	wantOf(t, d, 2, []int{5}, ref("big.q"), 0, api.ErrRange)
	// All Args are asked for, also those on which the port does not hang.
	d = parsed(t, "module low<n, k>(out q : n) { } module mid<n>() { inst u low<3, n+65535>(); } module top() { }")
	wantOf(t, d, 1, []int{0}, ref("u.q"), 3, api.OK)
	wantOf(t, d, 1, []int{1}, ref("u.q"), 0, api.ErrRange)
}

// P6.1: a name is what it is in the module that is asked of, also where another one has it.
func TestSameNames(t *testing.T) {
	d := parsed(t, `module one<n>(in a : n, out b : n+1) { wire w : 2 = 2'0; }
module two<m, n>(in a : m, out b : n) { wire w : n+3 = 1'1; inst u one<m>(a : a); inst v one<n>(a : a); }
module top(in a : 7) { wire w : 4 = 4'1; inst u two<5, 6>(a : a); inst v one<9>(a : a); }`)
	wantOf(t, d, 0, []int{3}, ref("a"), 3, api.OK)
	wantOf(t, d, 0, []int{3}, ref("w"), 2, api.OK)
	wantOf(t, d, 1, []int{3, 11}, ref("a"), 3, api.OK)
	wantOf(t, d, 1, []int{3, 11}, ref("w"), 14, api.OK)
	wantOf(t, d, 1, []int{3, 11}, ref("u.b"), 4, api.OK)
	wantOf(t, d, 1, []int{3, 11}, ref("v.b"), 12, api.OK)
	wantOf(t, d, 2, nil, ref("a"), 7, api.OK)
	wantOf(t, d, 2, nil, ref("w"), 4, api.OK)
	wantOf(t, d, 2, nil, ref("u.b"), 6, api.OK)
	wantOf(t, d, 2, nil, ref("v.b"), 10, api.OK)
}
