package width_test

import (
	"testing"

	"proofmark/api"
	"proofmark/width"
)

// empty has no names at all.
func empty() api.Design { return api.Design{Modules: []api.Module{{Name: "top"}}} }

func wantBare(t *testing.T, e api.Expr, want int, wantErr api.Errno) {
	t.Helper()
	wantOf(t, empty(), 0, nil, e, want, wantErr)
}

// wantFit is a width, or ErrWidth.
func wantFit(t *testing.T, e api.Expr, fits bool, want int) {
	t.Helper()
	if fits {
		wantBare(t, e, want, api.OK)
	} else {
		wantBare(t, e, 0, api.ErrWidth)
	}
}

// P6.1, F1: one Kid, of all widths, and of both errors.
func TestOneKid(t *testing.T) {
	for _, op := range []int{api.Inv, api.Past, api.RedOr, api.RedAnd} {
		for w := 1; w <= 16; w++ {
			want := w
			if op == api.RedOr || op == api.RedAnd {
				want = 1
			}
			wantBare(t, of(op, bits(w)), want, api.OK)
			wantBare(t, of(op, of(op, bits(w))), want, api.OK)
		}
		wantBare(t, of(op, wrongRange()), 0, api.ErrRange)
		wantBare(t, of(op, wrongWidth()), 0, api.ErrWidth)
	}
}

var twoKids = []int{api.And, api.Or, api.Xor, api.Add, api.Sub, api.Mul, api.Eq, api.Ne, api.Lt, api.Le, api.Cat}

// P6.1, F1: two Kids, of all pairs of widths; sums of widths of 16 and of 17 among them.
func TestTwoKids(t *testing.T) {
	for _, op := range twoKids {
		for a := 1; a <= 16; a++ {
			for b := 1; b <= 16; b++ {
				want, fits := a, a == b
				switch op {
				case api.Eq, api.Ne, api.Lt, api.Le:
					want = 1
				case api.Cat:
					want, fits = a+b, a+b <= 16
				}
				wantFit(t, of(op, bits(a), bits(b)), fits, want)
			}
		}
	}
}

// P6.1, F1: the first error of two Kids, ahead of widths that are not alike.
func TestTwoKidsErrors(t *testing.T) {
	for _, op := range twoKids {
		wantBare(t, of(op, wrongRange(), wrongWidth()), 0, api.ErrRange)
		wantBare(t, of(op, wrongWidth(), wrongRange()), 0, api.ErrWidth)
		wantBare(t, of(op, wrongRange(), bits(16)), 0, api.ErrRange)
		wantBare(t, of(op, bits(16), wrongRange()), 0, api.ErrRange)
		wantBare(t, of(op, wrongWidth(), bits(1)), 0, api.ErrWidth)
		wantBare(t, of(op, bits(1), wrongWidth()), 0, api.ErrWidth)
		wantBare(t, of(op, of(api.Cat, bits(16), bits(1)), wrongRange()), 0, api.ErrWidth)
		wantBare(t, of(op, of(api.Inv, of(op, wrongRange(), wrongWidth())), wrongWidth()), 0, api.ErrRange)
	}
}

// P6.1, F1: the first of a Mux is 1 wide, the others are alike.
func TestMux(t *testing.T) {
	for a := 1; a <= 16; a++ {
		for b := 1; b <= 16; b++ {
			for c := 1; c <= 16; c++ {
				wantFit(t, of(api.Mux, bits(a), bits(b), bits(c)), a == 1 && b == c, b)
			}
		}
	}
}

// P6.1, F1: all errors of a Mux, in order, ahead of what is not alike.
func TestMuxErrors(t *testing.T) {
	r, w := wrongRange(), wrongWidth()
	for _, c := range []struct {
		a, b, c api.Expr
		want    api.Errno
	}{
		{r, w, w, api.ErrRange}, {w, r, r, api.ErrWidth}, {r, bits(1), bits(1), api.ErrRange},
		{bits(1), r, w, api.ErrRange}, {bits(1), w, r, api.ErrWidth}, {bits(1), bits(1), r, api.ErrRange},
		{bits(1), bits(1), w, api.ErrWidth}, {bits(2), r, bits(1), api.ErrRange}, {bits(2), w, r, api.ErrWidth},
		{bits(2), bits(1), r, api.ErrRange}, {bits(1), bits(7), r, api.ErrRange},
	} {
		wantBare(t, of(api.Mux, c.a, c.b, c.c), 0, c.want)
	}
}

// P6.1, F1: all Slices of all widths; Lo that is Hi, and above it, Hi that is the width, and one less.
func TestSlice(t *testing.T) {
	for w := 1; w <= 16; w++ {
		for hi := 0; hi <= 18; hi++ {
			for lo := 0; lo <= 18; lo++ {
				wantFit(t, cut(bits(w), api.Dim{N: hi}, api.Dim{N: lo}), lo <= hi && hi < w, hi-lo+1)
			}
		}
	}
	wantBare(t, cut(bits(16), api.Dim{N: 65535}, api.Dim{N: 65535}), 0, api.ErrWidth)
	wantBare(t, cut(bits(16), api.Dim{N: 15}, api.Dim{N: 65535}), 0, api.ErrWidth)
}

// P6.1, F1: of a Slice its Kid's error, then those of Hi, and Lo, ahead of bits that are not there.
func TestSliceErrors(t *testing.T) {
	d := parsed(t, inner)
	far := api.Dim{Name: "n", N: 65535}
	low := api.Dim{N: 0}
	for _, c := range []struct {
		n      int
		e      api.Expr
		hi, lo api.Dim
		w      int
		want   api.Errno
	}{
		{1, wrongWidth(), far, far, 0, api.ErrWidth}, {1, wrongRange(), low, api.Dim{N: 1}, 0, api.ErrRange},
		{1, bits(1), far, low, 0, api.ErrRange}, {1, bits(1), low, far, 0, api.ErrRange},
		{1, bits(1), api.Dim{N: 9}, far, 0, api.ErrRange}, {1, bits(1), far, api.Dim{N: 9}, 0, api.ErrRange},
		{0, bits(1), far, far, 0, api.ErrWidth}, {0, wrongWidth(), low, low, 0, api.ErrWidth},
		{3, bits(5), api.Dim{Name: "n", N: 1}, api.Dim{Name: "n"}, 2, api.OK},
		{3, bits(5), api.Dim{Name: "n", N: 2}, api.Dim{Name: "n"}, 0, api.ErrWidth},
		{3, bits(5), api.Dim{Name: "n"}, api.Dim{Name: "n", N: 1}, 0, api.ErrWidth},
		{4, bits(5), api.Dim{Name: "n"}, low, 5, api.OK}, {5, bits(5), api.Dim{Name: "n"}, low, 0, api.ErrWidth},
		{0, bits(5), low, api.Dim{Name: "n"}, 1, api.OK}, {1, bits(5), low, api.Dim{Name: "n"}, 0, api.ErrWidth},
	} {
		wantOf(t, d, 2, []int{c.n}, cut(c.e, c.hi, c.lo), c.w, c.want)
	}
}

// P6.1, F1: of a Read its Kid's error, whose width does not count, then that of the memory.
func TestRead(t *testing.T) {
	d := parsed(t, `module mid<n>() { mem m[4] : n; mem k[n+65535] : 5; mem j[0] : 6; } module top() { }`)
	read := func(name string, kid api.Expr) api.Expr {
		return api.Expr{Op: api.Read, Name: name, Kids: []api.Expr{kid}}
	}
	for w := 1; w <= 16; w++ {
		wantOf(t, d, 0, []int{3}, read("m", bits(w)), 3, api.OK)
		wantOf(t, d, 0, []int{w}, read("m", bits(2)), w, api.OK)
	}
	wantOf(t, d, 0, []int{0}, read("m", bits(1)), 0, api.ErrRange)
	wantOf(t, d, 0, []int{17}, read("m", bits(1)), 0, api.ErrRange)
	wantOf(t, d, 0, []int{0}, read("m", wrongWidth()), 0, api.ErrWidth)
	wantOf(t, d, 0, []int{3}, read("m", wrongWidth()), 0, api.ErrWidth)
	wantOf(t, d, 0, []int{3}, read("m", wrongRange()), 0, api.ErrRange)
	wantOf(t, d, 0, []int{3}, read("m", read("m", bits(9))), 3, api.OK)
	// How many words there are is of no account.
	wantOf(t, d, 0, []int{9}, read("k", bits(1)), 5, api.OK)
	wantOf(t, d, 0, []int{9}, read("j", bits(1)), 6, api.OK)
}

// P6.1, F1: what is told is told from within, from the left.
func TestNested(t *testing.T) {
	d := parsed(t, "module top(in a : 4, in b : 4, in c : 1, in d : 9) { }")
	for _, c := range []struct {
		text string
		w    int
		err  api.Errno
	}{
		{"c ? a + b : a * b", 4, api.OK},
		{"{a, b}[6:2]", 5, api.OK},
		{"{a, b}[8:2]", 0, api.ErrWidth},
		{"a == b ? {a, {b, {a, b}}} : 16'65535", 16, api.OK},
		{"{a, {b, {a, {c, b}}}}", 0, api.ErrWidth},
		{"past(~(a & b | a ^ b)) - 4'15", 4, api.OK},
		{"any(d) & all(a) | d < 9'511", 1, api.OK},
		{"any(d) & all(a) | d < 9'512", 0, api.ErrRange},
		{"any(d) & a | d < 9'512", 0, api.ErrWidth},
		{"(d < 9'512) | any(d) & a", 0, api.ErrRange},
		{"d[8] == c", 1, api.OK},
		{"d[8] == a", 0, api.ErrWidth},
		{"d[9:9] == 4'16", 0, api.ErrWidth},
		{"4'16 == d[9:9]", 0, api.ErrRange},
		{"a <= b[3:0]", 1, api.OK},
		{"(a <= b) != (b <= a)", 1, api.OK},
		{"(a <= b) != b", 0, api.ErrWidth},
		{"~~~~~~~a", 4, api.OK},
	} {
		wantOf(t, d, 0, nil, exprOf(t, c.text), c.w, c.err)
	}
}

// The rule P1: an expression may be deeper than calls can be within one another.
func TestDeep(t *testing.T) {
	e := bits(7)
	for range 1500000 {
		e = of(api.Inv, e)
	}
	if w, err := width.Of(empty(), 0, nil, of(api.Cat, e, bits(8))); w != 15 || err != api.OK {
		t.Errorf("a deep expression is %d wide, %d", w, err)
	}
}

// The rule P1: a row of Kids may stand in very many places.
func TestShared(t *testing.T) {
	right, wrong := bits(5), wrongRange()
	for range 200 {
		right = of(api.And, right, right)
		wrong = of(api.And, wrong, wrong)
	}
	wantBare(t, right, 5, api.OK)
	wantBare(t, of(api.Cat, right, right), 10, api.OK)
	wantBare(t, wrong, 0, api.ErrRange)
	// One row, as the Kids of several Ops.
	kids := []api.Expr{bits(3), bits(3)}
	wantBare(t, of(api.Cat, api.Expr{Op: api.Add, Kids: kids}, api.Expr{Op: api.Cat, Kids: kids}), 9, api.OK)
	wantBare(t, of(api.Cat, api.Expr{Op: api.Le, Kids: kids}, api.Expr{Op: api.Inv, Kids: kids[1:]}), 4, api.OK)
	wantBare(t, of(api.Cat, api.Expr{Op: api.Inv, Kids: kids[:1]}, api.Expr{Op: api.Eq, Kids: kids}), 4, api.OK)
	test, sum := api.Expr{Op: api.Eq, Kids: kids}, api.Expr{Op: api.Add, Kids: kids}
	wantBare(t, of(api.Cat, test, of(api.Cat, bits(4), sum)), 8, api.OK)
}

// Beyond the rule P1: nothing is said of expressions without an end, but to ask for them ends.
func TestEndless(t *testing.T) {
	for _, op := range []int{api.Inv, api.Add, api.Mux, api.Read, 0} {
		kids := make([]api.Expr, 3)
		for i := range kids {
			kids[i] = api.Expr{Op: op, Kids: kids[:1+i]}
		}
		if w, err := width.Of(empty(), 0, nil, kids[2]); w != 0 || err != api.ErrBig {
			t.Errorf("an endless expression of Op %d is %d wide, %d", op, w, err)
		}
	}
}
