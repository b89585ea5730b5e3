package syn_test

import (
	"slices"
	"strings"
	"testing"

	"proofmark/api"
	"proofmark/lex"
	"proofmark/syn"
)

// vocabulary has a token of each sort.
var vocabulary = append(append(strings.Fields("a m 0 7"), keptWords...),
	strings.Fields("<= == != ( ) { } < > [ ] : ; , = & | ^ ~ + - * ? . '")...)

// P2.1, and the rule P3: faults, and what is kept, are what the rules of B2 tell, and the same again.
func checkTold(t *testing.T, s string) {
	t.Helper()
	d, f := syn.Parse(s)
	r, err, at := readText(s)
	if err != api.OK {
		if len(d.Modules) != 0 || !slices.Equal(f, []api.Fault{{Err: err, At: at}}) {
			t.Errorf("B2: %q: %v, %v; lex tells %d at %d", brief(s), kept(d), f, err, at)
		}
		return
	}
	if !slices.Equal(f, r.faults) {
		t.Errorf("P2.1: %q: faults %v; want %v", brief(s), f, r.faults)
		return
	}
	if rest := r.rest(); len(rest) <= api.MaxText {
		if want, none := syn.Parse(rest); len(none) != 0 || !alike(d.Modules, want.Modules) {
			t.Errorf("P2.1: %q: %+v; want %+v", brief(s), d, want)
		}
	}
	if d2, f2 := syn.Parse(s); !alike(d.Modules, d2.Modules) || !slices.Equal(f, f2) {
		t.Errorf("P3: %q tells something else the second time", brief(s))
	}
}

// P2.2: of texts that lex does not refuse.
func checkPlaces(t *testing.T, s string) {
	t.Helper()
	toks, err, _ := lex.Lex(s)
	if err != api.OK {
		return
	}
	_, f := syn.Parse(s)
	if len(f) > 20 {
		t.Errorf("P2.2: %q: %d faults", brief(s), len(f))
	}
	last := 0
	for _, x := range f {
		begins := slices.ContainsFunc(toks, func(tok api.Tok) bool { return tok.At == x.At })
		if x.At < last || !begins && x.At != len(s) || (x.Err == api.ErrEnd) != (x.At == len(s)) {
			t.Errorf("P2.2: %q: faults %v", brief(s), f)
		}
		last = x.At
	}
}

// P2.2: tokens that stand elsewhere have the same design, and the same faults there.
func checkElsewhere(t *testing.T, r *maker, s string) {
	t.Helper()
	toks, err, _ := lex.Lex(s)
	if err != api.OK {
		return
	}
	other, places := spread(r, toks)
	if len(other) > api.MaxText {
		return
	}
	places[len(s)] = len(other)
	d, f := syn.Parse(s)
	want := slices.Clone(f)
	for i := range want {
		want[i].At = places[want[i].At]
	}
	if d2, f2 := syn.Parse(other); !alike(d.Modules, d2.Modules) || !slices.Equal(f2, want) {
		t.Errorf("P2.2: %q, and %q: %v, want %v", brief(s), brief(other), f2, want)
	}
}

// spread lays tokens out anew, and tells for each old place the new one.
func spread(r *maker, toks []api.Tok) (string, map[int]int) {
	var b strings.Builder
	places := map[int]int{}
	for _, tok := range toks {
		b.WriteString(r.one(" ", "\n", "\t", "  ", "// } ;\n", "\n//\n", " // module\n "))
		places[tok.At] = b.Len()
		b.WriteString(tok.Text)
	}
	b.WriteString(r.one("", " ", "\n", "// }"))
	return b.String(), places
}

// P2.4: cut ahead of each token.
func checkCut(t *testing.T, s string) {
	t.Helper()
	toks, _, _ := lex.Lex(s)
	d, _ := syn.Parse(s)
	r, _, _ := readText(s)
	for i, tok := range toks {
		through, within := 0, false
		for j, m := range r.kept {
			if m.head[0] >= i {
				break
			}
			// A module's `}` stands just ahead of the next head.
			behind := len(toks)
			if j+1 < len(r.kept) {
				behind = r.kept[j+1].head[0]
			}
			if within = behind > i; !within {
				through++
			}
		}
		got, f := syn.Parse(s[:tok.At])
		var want []api.Fault
		if within {
			want = []api.Fault{end(tok.At)}
		}
		if !slices.Equal(f, want) || !alike(got.Modules, d.Modules[:through]) {
			t.Errorf("P2.4: %q, cut at %d: %s, %v; want %d modules, %v", brief(s), tok.At, kept(got), f, through, want)
		}
	}
}

// P2.5: any token that begins no item, ahead of any item without `}`. Two tokens are not such: `}` ends the module,
// and behind `;` it goes on at once (B5), so that no item is spoilt.
func checkSpared(t *testing.T, d api.Design) {
	t.Helper()
	for m := range d.Modules {
		for i, it := range d.Modules[m].Items {
			ahead, behind := splitAt(d, m, i)
			item := textOf(it)
			if strings.Contains(item, "}") {
				continue
			}
			want := without(d, m, i)
			for _, tok := range vocabulary {
				if beginsItem(tok) || tok == "}" {
					continue
				}
				got, f := syn.Parse(ahead + tok + " " + item + behind)
				if tok == ";" {
					want := []api.Fault{word(len(ahead))}
					if !slices.Equal(f, want) || !alike(got.Modules, d.Modules) {
						t.Errorf("B5: %q: %v", ahead+tok+" "+item+behind, f)
					}
					continue
				}
				if !slices.Equal(f, []api.Fault{word(len(ahead))}) || !alike(got.Modules, want.Modules) {
					t.Errorf("P2.5: %q: %s, %v", ahead+tok+" "+item+behind, kept(got), f)
				}
			}
		}
	}
}

func beginsItem(s string) bool {
	return slices.Contains(strings.Fields("wire reg mem inst assert assume cover next out put"), s)
}

func textOf(it api.Item) string {
	var w writer
	w.item(it)
	return w.String()
}

// splitAt is the text ahead of an item, and the one behind it.
func splitAt(d api.Design, m, i int) (string, string) {
	cut := api.Design{Modules: slices.Clone(d.Modules[:m+1])}
	cut.Modules[m].Items = d.Modules[m].Items[:i]
	var a, all writer
	ahead := strings.TrimSuffix(a.design(cut), "} ")
	return ahead, strings.TrimPrefix(all.design(d), ahead+textOf(d.Modules[m].Items[i]))
}

func without(d api.Design, m, i int) api.Design {
	d.Modules = slices.Clone(d.Modules)
	d.Modules[m].Items = slices.Delete(slices.Clone(d.Modules[m].Items), i, i+1)
	return d
}

// P2.1, P2.2: a design that is written is read back, however it is laid out; each rule of B3 comes up in it.
func TestMadeDesigns(t *testing.T) {
	r := newMaker(1)
	kinds, ops := map[int]bool{}, map[int]bool{}
	for range 800 {
		d := r.design(r.Intn(5), 6)
		s := r.text(d)
		if len(s) > api.MaxText {
			continue
		}
		wantDesign(t, s, d.Modules...)
		checkTold(t, s)
		checkPlaces(t, s)
		checkElsewhere(t, r, s)
		for _, m := range d.Modules {
			for _, it := range m.Items {
				kinds[it.Kind] = true
				ops[it.E.Op] = true
			}
		}
	}
	// Lit to Past, and 0 of items without E.
	if len(kinds) != 10 || len(ops) != 21 {
		t.Errorf("made %d kinds, %d ops", len(kinds), len(ops))
	}
}

// P2.1, P2.2: one token instead of another, one more, one less, two changed about; and several of these.
func TestSpoiltDesigns(t *testing.T) {
	r := newMaker(2)
	for range 3000 {
		d := r.design(1+r.Intn(3), 4)
		toks, _, _ := lex.Lex(r.text(d))
		var texts []string
		for _, tok := range toks {
			texts = append(texts, tok.Text)
		}
		for range 1 + r.Intn(3) {
			texts = spoil(r, texts)
		}
		s := strings.Join(texts, " ")
		checkTold(t, s)
		checkPlaces(t, s)
		checkElsewhere(t, r, s)
		if t.Failed() {
			return
		}
	}
}

func spoil(r *maker, l []string) []string {
	if len(l) < 2 {
		return append(l, r.one(vocabulary...))
	}
	i := r.Intn(len(l) - 1)
	switch r.Intn(4) {
	case 0:
		l[i] = r.one(vocabulary...)
	case 1:
		return slices.Insert(l, i, r.one(vocabulary...))
	case 2:
		return slices.Delete(l, i, i+1)
	case 3:
		l[i], l[i+1] = l[i+1], l[i]
	}
	return l
}

// P2.1: each token of each rule of B2, spoilt in all ways.
func TestEachTokenSpoilt(t *testing.T) {
	for _, head := range []string{"module m ( )", "module m < P , Q > ( in a : P , out b : Q + 1 )"} {
		spoilEach(t, "", head, " { next y = a ; } module n ( ) { }")
	}
	for _, item := range []string{
		"wire w : P + 1 = a ? w : 1 ' P ;", "reg r : 1 = Q + 2 ;", "mem k [ 4 ] : P ;",
		"inst u m < 1 , P + 1 > ( a : b , c : ~ d ) ;", "inst v m ( ) ;",
		"assert p : a | b ^ c & d == e ;", "assume q : any ( a ) <= all ( b ) ;", "cover s : past ( u . b ) [ 3 : P + 1 ] [ 0 ] ;",
		"next r = at ( k , ( a ) ) ;", "next r = e + f - g * h ;", "out b = { a , b } != c ;", "put k [ a < b ] = P ' Q if c ;",
	} {
		spoilEach(t, "module m ( ) { next x = a ; ", item, " next y = a ; } module n ( ) { }")
	}
}

func spoilEach(t *testing.T, open, text, close string) {
	t.Helper()
	wantFaults(t, open+text+close)
	texts := strings.Fields(text)
	for i := range texts {
		check := func(with []string, from int) {
			checkTold(t, open+strings.Join(slices.Concat(texts[:i], with, texts[from:]), " ")+close)
		}
		for _, tok := range vocabulary {
			check([]string{tok}, i+1)
			check([]string{tok}, i)
		}
		check(nil, i+1)
		checkTold(t, open+strings.Join(texts[:i], " "))
	}
}

// P2.1: all short rows of tokens, where a module, a head, an item or an expr may stand.
func TestAllShortRows(t *testing.T) {
	for _, x := range []struct {
		open, close string
		most        int
	}{
		{"", "", 2},
		{"", " module n ( ) { next x = a ; }", 2},
		{"module", " module n ( ) { }", 2},
		{"module m (", " { } module n ( ) { }", 2},
		{"module m ( ) {", " ; next x = a ; } module n ( ) { }", 2},
		{"module m ( ) { next y = ", " ; next x = a ; } module n ( ) { }", 3},
	} {
		rows := []string{x.open}
		for range x.most {
			var next []string
			for _, row := range rows {
				for _, tok := range vocabulary {
					next = append(next, row+" "+tok)
					checkTold(t, row+" "+tok+x.close)
				}
			}
			if rows = next; t.Failed() {
				return
			}
		}
	}
}

// P2.3: with a line feed between, which ends a remark.
func TestJoined(t *testing.T) {
	r := newMaker(3)
	for i := range 400 {
		a, b := r.design(r.Intn(10), 1), r.design(r.Intn(10), 1)
		s := r.text(a) + r.one("", "// }") + "\n" + r.text(b)
		both := slices.Concat(a.Modules, b.Modules)
		if len(s) > api.MaxText {
			continue
		}
		d, f := syn.Parse(s)
		switch {
		case len(both) <= 16 && (len(f) != 0 || !alike(d.Modules, both)):
			t.Errorf("P2.3: %d: %q: %v", i, brief(s), f)
		case len(both) > 16 && (len(f) != len(both)-16 || f[0].Err != api.ErrBig || !alike(d.Modules, both[:16])):
			t.Errorf("B4: %d: %q: %v", i, brief(s), f)
		}
	}
	// Just as many as may be, and one more.
	eight := strings.Repeat("module m() {}", 8)
	wantKept(t, eight+eight, strings.TrimSpace(strings.Repeat("m() ", 16)))
	wantKept(t, eight+"module n() {}"+eight, strings.Repeat("m() ", 8)+"n()"+strings.Repeat(" m()", 7), big(16*13))
}

func TestCut(t *testing.T) {
	r := newMaker(4)
	for range 150 {
		s := r.text(r.design(1+r.Intn(4), 4))
		if len(s) <= api.MaxText {
			checkCut(t, s)
		}
	}
	for _, s := range []string{
		"module m() {}", "module m() {} module n() {}",
		"module m<a, b, c, d>(in a : 1) { next x = ~~~~~~~~a; next y = {a|b|c|d|e|f|g|h, a}; }",
		strings.Repeat("module m() {} ", 16),
		"module m() {" + strings.Repeat("next a = b;", 64) + "}",
	} {
		wantFaults(t, s)
		checkCut(t, s)
	}
}

func TestSpared(t *testing.T) {
	r := newMaker(5)
	for range 60 {
		checkSpared(t, r.design(1+r.Intn(3), 4))
	}
	full := api.Module{Name: "m"}
	for range 64 {
		full.Items = append(full.Items, api.Item{Kind: api.Reg, Name: "r"})
	}
	checkSpared(t, api.Design{Modules: []api.Module{full, {Name: "n"}}})
}

// B4: of a made expr, the first part that is through and too deep has the fault, at its token.
func TestMadeDepths(t *testing.T) {
	r := newMaker(6)
	told := 0
	for range 3000 {
		var w writer
		w.more = r
		w.put("module", "m", "(", ")", "{", "next", "x", "=")
		e := r.deepExpr(6 + r.Intn(6))
		w.expr(e, 0)
		w.put(";", "next", "y", "=", "a", ";", "}")
		s := w.String()
		i := slices.IndexFunc(w.made, func(m madeAt) bool { return m.deep > 8 })
		if i < 0 {
			wantKept(t, s, "m(x y)")
			continue
		}
		told++
		_, f := syn.Parse(s)
		if len(f) == 0 || f[0] != big(w.made[i].at) {
			t.Errorf("B4: %q: %v; want first %v", s, f, big(w.made[i].at))
		}
		if !strings.Contains(s[w.made[i].at:len(s)-2], "}") {
			wantKept(t, s, "m(y)", big(w.made[i].at))
		}
	}
	if told < 500 || told > 2500 {
		t.Errorf("%d of 3000 were too deep", told)
	}
}

// deepExpr is about so deep, by one Kid of each part.
func (r *maker) deepExpr(deep int) api.Expr {
	if deep == 0 {
		return r.leaf()
	}
	e := r.expr(1)
	for len(e.Kids) == 0 {
		e = r.expr(1)
	}
	e.Kids[r.Intn(len(e.Kids))] = r.deepExpr(deep / 2)
	e.Kids[r.Intn(len(e.Kids))] = r.deepExpr(deep - 1)
	return e
}

// P3: rows of one answer are not shared with another's.
func TestAnswersAreApart(t *testing.T) {
	s := "module m<P>(in a : 1) { inst u m<1>(a : ~a); next x = a | b; }"
	d, _ := syn.Parse(s)
	d.Modules[0].Params[0] = "Z"
	d.Modules[0].Ports[0].Name = "Z"
	d.Modules[0].Items[0].Args[0].N = 9
	d.Modules[0].Items[0].Binds[0].E.Kids[0].Name = "Z"
	d.Modules[0].Items[1].E.Kids[0].Name = "Z"
	other, f := syn.Parse(s)
	var w writer
	if got := strings.Join(strings.Fields(w.design(other)), " "); len(f) != 0 || strings.Contains(got, "Z") {
		t.Errorf("P3: %s", got)
	}
}

// tooManySigns: exprs may be deeper there than the rules of B2 tell.
func tooManySigns(s string) bool {
	toks, _, _ := lex.Lex(s)
	n := 0
	for _, tok := range toks {
		if slices.Contains(strings.Fields("| ^ & == != < <= + - * ~ [ { ? any all past at"), tok.Text) {
			n++
		}
	}
	return n > 8
}

func FuzzParse(f *testing.F) {
	for _, s := range []string{"", "module m(in a : 1) { assert p : a; }", "module m() { wire x 1; cover c : 1'1; }", "module m() {",
		"module m<P>() { put k[a?b:c] = {a, b} if at(k, 1'0)[1:0]; inst u m<1>(a : ~b); }", "? module", "@"} {
		f.Add(s)
	}
	f.Fuzz(func(t *testing.T, s string) {
		checkPlaces(t, s)
		if !tooManySigns(s) {
			checkTold(t, s)
		}
	})
}
