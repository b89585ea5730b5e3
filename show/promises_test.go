package show_test

import (
	"fmt"
	"testing"

	"proofmark/api"
	"proofmark/lex"
	"proofmark/show"
	"proofmark/syn"
)

// brief keeps a failure's line short: some texts have 20000 bytes.
func brief(x any) string {
	s := fmt.Sprintf("%+v", x)
	if len(s) > 600 {
		return s[:600] + ".."
	}
	return s
}

// P3.1 of Right and Text, and the rule P3: nothing is changed, and the same is told again.
func checkTold(t *testing.T, d api.Design) bool {
	t.Helper()
	was := fmt.Sprintf("%#v", d)
	want := tellDesign(d)
	right := want.right && len(want.text) <= 20000
	if !right {
		want.text = ""
	}
	for range 2 {
		if got := show.Right(d); got != right {
			t.Errorf("C3: Right(%s) = %t", brief(d), got)
		}
		if got := show.Text(d); got != want.text {
			t.Errorf("C5: Text(%s) = %q; want %q", brief(d), brief(got), brief(want.text))
		}
	}
	if fmt.Sprintf("%#v", d) != was {
		t.Errorf("P3: %s was changed to %s", brief(was), brief(d))
	}
	return right
}

// P3.1 of Expr.
func checkExpr(t *testing.T, e api.Expr) {
	t.Helper()
	want := tellExpr(e)
	if !want.right {
		want.text = ""
	}
	if got := show.Expr(e); got != want.text {
		t.Errorf("C4: Expr(%s) = %q; want %q", brief(e), brief(got), brief(want.text))
	}
}

// P3.2: a right design is parsed back.
func checkBack(t *testing.T, d api.Design) {
	t.Helper()
	if back, f := syn.Parse(show.Text(d)); len(f) != 0 || !alike(back, d) {
		t.Errorf("P3.2: %q is parsed as %s, %v; want %s", brief(show.Text(d)), brief(back), f, brief(d))
	}
}

// P3.2, the other way: what is parsed is right, if its text is not too long; then its text is one for all texts of it.
func checkParsed(t *testing.T, s string) {
	t.Helper()
	d, _ := syn.Parse(s)
	long := len(tellDesign(d).text) > api.MaxText
	if show.Right(d) == long {
		t.Errorf("P3.2: Right(Parse(%q)) = %t", brief(s), !long)
	}
	checkTold(t, d)
	if !long {
		checkBack(t, d)
	}
}

// P3.1 of Same, and P3.3 of designs.
func checkPair(t *testing.T, a, b api.Design) {
	t.Helper()
	same := alike(a, b)
	if show.Same(a, b) != same || show.Same(b, a) != same {
		t.Errorf("C6: Same(%s, %s) = %t, %t; want %t", brief(a), brief(b), show.Same(a, b), show.Same(b, a), same)
	}
	if show.Right(a) && show.Right(b) && (show.Text(a) == show.Text(b)) != same {
		t.Errorf("P3.3: %s and %s: are they told by one text, %q? Are they the same, %t?", brief(a), brief(b), brief(show.Text(a)), same)
	}
}

// P3.3 of exprs: wherever an expr may stand.
func checkStands(t *testing.T, e api.Expr) {
	t.Helper()
	s := show.Expr(e)
	text := "module m() { wire x : 1 = " + s + "; assert x : " + s + "; assume x : " + s + "; cover x : " + s +
		"; next x = " + s + "; out x = " + s + "; put x[" + s + "] = " + s + " if " + s +
		"; inst x y(p : " + s + ", q : " + s + "); cover x : ( " + s + " ); }"
	d, f := syn.Parse(text)
	if len(f) != 0 || len(d.Modules) != 1 || len(d.Modules[0].Items) != 9 {
		t.Errorf("P3.3: %q: %v", brief(text), f)
		return
	}
	for _, it := range d.Modules[0].Items {
		l := []api.Expr{it.E}
		switch it.Kind {
		case api.Put:
			l = append(l, it.At, it.If)
		case api.Inst:
			l = []api.Expr{it.Binds[0].E, it.Binds[1].E}
		}
		for _, x := range l {
			if !alike(x, e) {
				t.Errorf("P3.3: %q is parsed as %s; want %s", s, brief(x), brief(e))
			}
		}
	}
}

// P3.1, P3.2, P3.3: of made designs, which are right unless their text is too long.
func TestMadeDesigns(t *testing.T) {
	r := newMaker(1)
	kinds, ops := map[int]bool{}, map[int]bool{}
	long := 0
	for range 1500 {
		d := r.design(6)
		if !tellDesign(d).right {
			t.Fatalf("made a wrong design: %s", brief(d))
		}
		if !checkTold(t, d) {
			long++
			continue
		}
		checkBack(t, d)
		for _, m := range d.Modules {
			for _, it := range m.Items {
				kinds[it.Kind] = true
				ops[it.E.Op] = true
			}
		}
	}
	// Lit to Past, and 0 of items without E.
	if len(kinds) != 10 || len(ops) != 21 || long > 500 {
		t.Errorf("made %d kinds, %d ops, %d too long", len(kinds), len(ops), long)
	}
}

// P3.1, P3.2, P3.3: designs with one place changed, or several; some are right then, some not.
func TestSpoiltDesigns(t *testing.T) {
	right, wrong := 0, 0
	for seed := range int64(6000) {
		d, r := madeDesign(seed)
		was, _ := madeDesign(seed)
		for range 1 + r.Intn(3) {
			l := placesOf(&d)
			r.spoil(l[r.Intn(len(l))])
		}
		checkPair(t, was, d)
		if checkTold(t, d) {
			right++
			checkBack(t, d)
		} else {
			wrong++
		}
		for _, m := range d.Modules {
			for _, it := range m.Items {
				checkExpr(t, it.E)
			}
		}
		if t.Failed() {
			return
		}
	}
	if right < 300 || wrong < 300 {
		t.Errorf("%d right, %d wrong", right, wrong)
	}
}

func madeDesign(seed int64) (api.Design, maker) {
	r := newMaker(seed)
	return r.design(2), r
}

// P3.3: exprs where they may stand.
func TestMadeExprs(t *testing.T) {
	r := newMaker(3)
	for range 5000 {
		e := r.expr(8)
		checkExpr(t, e)
		checkStands(t, e)
	}
}

// kidsOfEach are exprs of each Op, with leaves as Kids.
func kidsOfEach() []api.Expr {
	a := ref("a")
	l := []api.Expr{a, ref("u.p"), lit(num(4), num(9)), lit(dim("W", 0), dim("N", 0)),
		slice(a, num(3), num(3)), slice(a, num(3), num(1)), read("m", a)}
	for op := api.Inv; op <= api.Past; op++ {
		switch op {
		case api.Inv, api.RedOr, api.RedAnd, api.Past:
			l = append(l, of(op, a))
		case api.Mux:
			l = append(l, of(op, a, a, a))
		case api.Slice, api.Read:
		default:
			l = append(l, of(op, a, a))
		}
	}
	return l
}

// twoLevels are exprs of each Op, with exprs of each Op at each place.
func twoLevels() []api.Expr {
	kids := kidsOfEach()
	l := kids
	for _, x := range kids {
		l = append(l, slice(x, num(2), num(2)), slice(x, dim("P", 1), num(0)), read("m", x))
		for _, op := range []int{api.Inv, api.RedOr, api.RedAnd, api.Past} {
			l = append(l, of(op, x))
		}
		for _, y := range kids {
			for op := api.And; op <= api.Le; op++ {
				l = append(l, of(op, x, y))
			}
			l = append(l, of(api.Cat, x, y))
			for _, z := range kids {
				l = append(l, of(api.Mux, x, y, z))
			}
		}
	}
	return l
}

// P3.1, P3.3: each Op within each Op, at each of its places: its brackets are right, and needed.
func TestEachOpWithinEach(t *testing.T) {
	met := map[string]api.Expr{}
	for _, e := range twoLevels() {
		checkExpr(t, e)
		checkStands(t, e)
		s := show.Expr(e)
		if other, ok := met[s]; ok && !alike(other, e) {
			t.Errorf("P3.3: %q tells %+v, and %+v", s, other, e)
		}
		met[s] = e
		if t.Failed() {
			return
		}
	}
	if len(met) < 15000 {
		t.Errorf("%d exprs", len(met))
	}
}

// P3.3: small designs, each against each, so that some are the same.
func TestPairs(t *testing.T) {
	r := newMaker(4)
	var l []api.Design
	for range 120 {
		m := api.Module{Name: one(r, "a", "b")}
		for range r.Intn(3) {
			m.Items = append(m.Items, api.Item{Kind: one(r, api.Assert, api.Cover), Name: "p", E: of(one(r, api.Add, api.Sub), ref("a"), ref(one(r, "a", "b")))})
		}
		l = append(l, api.Design{Modules: some(r, 2, func() api.Module { return m })})
	}
	same := 0
	for i, a := range l {
		for _, b := range l[:i] {
			checkPair(t, a, b)
			if show.Same(a, b) {
				same++
			}
		}
	}
	if same < 100 {
		t.Errorf("%d pairs are the same", same)
	}
}

// P3.2: texts with faults in them have designs too, that are right.
func TestParsedTexts(t *testing.T) {
	r := newMaker(5)
	vocabulary := []string{"a", "0", "module", "in", "out", "wire", "put", "if", "any", "at", "<=", "==", "(", ")", "{", "}", "<", ">", "[", "]",
		":", ";", ",", "=", "&", "|", "~", "+", "-", "*", "?", ".", "'"}
	for range 2000 {
		toks, _, _ := lex.Lex(show.Text(r.design(3)))
		for range r.Intn(4) {
			if len(toks) > 0 {
				toks[r.Intn(len(toks))].Text = one(r, vocabulary...)
			}
		}
		checkParsed(t, lex.Text(toks))
	}
}

// FuzzParsed looks for texts of which something is parsed that is not written as it should be.
func FuzzParsed(f *testing.F) {
	for _, s := range []string{"", wholeText, "module m() { wire x 1; cover c : 1'1; }", "module m(){assert p:(~a)[3:1]?b:{c,d};}"} {
		f.Add(s)
	}
	f.Fuzz(func(t *testing.T, s string) { checkParsed(t, s) })
}
