package syn_test

import (
	"slices"
	"strings"
	"testing"

	"proofmark/api"
	"proofmark/syn"
)

// row is so many pieces with commas between.
func row(n int, piece string) string {
	return strings.TrimSuffix(strings.Repeat(piece+",", n), ",")
}

// placed is the text without its mark, and where that stood.
func placed(s string) (string, int) {
	at := strings.Index(s, "@")
	return strings.Replace(s, "@", "", 1), at
}

// wantBig: one fault, ErrBig at the mark.
func wantBig(t *testing.T, marked string, want string) {
	t.Helper()
	s, at := placed(marked)
	wantKept(t, s, want, big(at))
}

// B4, B5: the 17th `module`, and each one behind it; what failed counts too.
func TestModulesBound(t *testing.T) {
	sixteen := strings.Repeat("module m() {}\n", 16)
	names := strings.TrimSpace(strings.Repeat("m() ", 16))
	wantKept(t, sixteen, names)
	wantBig(t, sixteen+"@module n() {}", names)
	wantBig(t, sixteen+"@module", names)
	wantBig(t, sixteen+"@module n( ? wire } ;", names)
	wantKept(t, sixteen+"module n() {} module o() {}", names, big(16*14), big(17*14))
	wantKept(t, sixteen+"module module", names, big(16*14), big(16*14+7))
	wantKept(t, sixteen+"? module n() {}", names, word(16*14), big(16*14+2))
	wantKept(t, sixteen+"?", names, word(16*14))

	// A module that was not through was begun.
	s := strings.Repeat("module m() {}\n", 15) + "module m( module n() {}"
	wantKept(t, s, strings.TrimSpace(strings.Repeat("m() ", 15)), word(15*14+10), big(15*14+10))
	// A word that was passed over was not.
	s = strings.Repeat("module m() { ? module; }", 16)
	d, f := syn.Parse(s)
	if len(d.Modules) != 16 || len(f) != 16 {
		t.Errorf("B4: %d modules, %v", len(d.Modules), f)
	}

	// One token may be two faults: it goes on nothing, and is too much.
	s = strings.TrimSpace(strings.Repeat("module ", 17))
	var want []api.Fault
	for i := 1; i <= 16; i++ {
		want = append(want, word(7*i))
	}
	wantFaults(t, s, append(want, big(7*16))...)
}

// B4, B5: the 5th param, and the 17th port, where they must begin.
func TestHeadBounds(t *testing.T) {
	wantKept(t, "module m<"+row(4, "p")+">() {}", "m()")
	wantBig(t, "module m<"+row(4, "p")+",@p>() {} module n() {}", "n()")
	wantBig(t, "module m<"+row(4, "p")+",@>() {} module n() {}", "n()")
	wantBig(t, "module m<"+row(4, "p")+",@wire x ; } { module n() {}", "n()")
	wantBig(t, "module m<"+row(9, "p")[:8]+"@"+row(9, "p")[8:]+">() {}", "")
	wantKept(t, "module m<"+row(4, "p")+",", "", end(17))
	wantKept(t, "module m<"+row(4, "p")+" p>() {}", "", word(17))
	// From behind the token on: it is not looked at again.
	wantBig(t, "module m<"+row(4, "p")+",@module n() {} module o() {}", "o()")
	wantBig(t, "module m<"+row(4, "p")+",@module", "")

	ports := row(16, "in a : 1")
	wantKept(t, "module m("+ports+") {}", "m()")
	wantBig(t, "module m("+ports+",@out b : 1) {} module n() {}", "n()")
	wantBig(t, "module m("+ports+",@) {} module n() {}", "n()")
	wantBig(t, "module m("+ports+",@7", "")
	wantBig(t, "module m("+ports+",@module n() {} module o() {}", "o()")
	s := "module m(" + ports + ","
	wantKept(t, s, "", end(len(s)))
	wantKept(t, "module m("+ports+" in b : 1) {}", "", word(len(s)))
	// Lists are held apart.
	wantKept(t, "module m<"+row(4, "p")+">("+ports+") {} module n<"+row(4, "p")+">("+ports+") {}", "m() n()")
}

// B4, B5: the 5th argument, and the 17th bind, where they must begin.
func TestInstBounds(t *testing.T) {
	open, behind := "module m() { reg x : 1 = 0; inst u m", " reg y : 1 = 0; } module n() {}"
	wantKept(t, open+"<"+row(4, "1")+">();"+behind, "m(x u y) n()")
	wantBig(t, open+"<"+row(4, "1")+",@1>();"+behind, "m(x y) n()")
	wantBig(t, open+"<"+row(4, "P+1")+",@P>();"+behind, "m(x y) n()")
	wantBig(t, open+"<"+row(4, "1")+",@;"+behind, "m(x y) n()")
	wantBig(t, open+"<"+row(4, "1")+",@} module n() {}", "m(x) n()")
	wantBig(t, open+"<"+row(4, "1")+",@module ?;"+behind, "m(x y) n()")

	binds := row(16, "a:b")
	wantKept(t, open+"("+binds+");"+behind, "m(x u y) n()")
	wantBig(t, open+"("+binds+",@a:b);"+behind, "m(x y) n()")
	wantBig(t, open+"("+binds+",@);"+behind, "m(x y) n()")
	wantBig(t, open+"("+binds+",@;"+behind, "m(x y) n()")
	wantBig(t, open+"("+binds+",@} module n() {}", "m(x) n()")
	s := open + "(" + binds + ","
	wantKept(t, s, "", end(len(s)))
	s = open + "<" + row(4, "1") + ","
	wantKept(t, s, "", end(len(s)))
	// ErrBig, and then nothing behind which it could go on.
	s = open + "(" + binds + ",x"
	wantKept(t, s, "", big(len(s)-1), end(len(s)))
	wantKept(t, open+"<"+row(4, "1")+">("+binds+"); inst v m<"+row(4, "1")+">("+binds+");"+behind, "m(x u v y) n()")
}

// B4, B5: the 65th item, and each one behind it; what failed counts too, and what begins no item does not.
func TestItemsBound(t *testing.T) {
	item := "next a = b;"
	names := strings.TrimSpace(strings.Repeat("a ", 64))
	open := "module m() {"
	all := open + strings.Repeat(item, 64)
	wantKept(t, all+"} module n() {"+item+"}", "m("+names+") n(a)")
	wantBig(t, all+"@next c = d; } module n() {}", "m("+names+") n()")
	wantBig(t, all+"@wire } module n() {}", "m("+names+") n()")
	wantBig(t, all+"@out 1 2 3 ; }", "m("+names+")")
	wantKept(t, all+item+item+"}", "m("+names+")", big(len(all)), big(len(all)+11))
	wantKept(t, all+"in a = b; }", "m("+names+")", word(len(all)))
	wantKept(t, all+"; ; }", "m("+names+")", word(len(all)), word(len(all)+2))
	wantKept(t, all+"next", "", big(len(all)), end(len(all)+4))
	wantKept(t, all, "", end(len(all)))

	s := open + "next a b;" + strings.Repeat(item, 63)
	names = strings.TrimSpace(strings.Repeat("a ", 63))
	wantKept(t, s+"}", "m("+names+")", word(19))
	wantKept(t, s+item+"}", "m("+names+")", word(19), big(len(s)))

	s = open + ";" + strings.Repeat(item, 64) + "}"
	wantKept(t, s, "m("+names+" a)", word(12))
}

// deepForms are exprs that are n deep, each with a mark ahead of the token that makes it so.
func deepForms() map[string]func(n int) string {
	nest := func(open, close string) func(int) string {
		return func(n int) string {
			return "@" + strings.Repeat(open, n) + "a" + strings.Repeat(close, n)
		}
	}
	forms := map[string]func(int) string{
		"~":      nest("~", ""),
		"any":    nest("any(", ")"),
		"all":    nest("all(", ")"),
		"past":   nest("past(", ")"),
		"at":     nest("at(m, ", ")"),
		"{left":  nest("{", ",a}"),
		"{right": nest("{a,", "}"),
		"[":      func(n int) string { return "a" + strings.Repeat("[1]", n-1) + "@[1]" },
		"[:]":    func(n int) string { return "a" + strings.Repeat("[P+2:1]", n-1) + "@[P+2:1]" },
		"?first": func(n int) string {
			return strings.Repeat("(", n-1) + "a" + strings.Repeat("?b:c)", n-1) + "@?b:c"
		},
		"?second": func(n int) string { return "a@?" + strings.Repeat("a?", n-1) + "b" + strings.Repeat(":c", n) },
		"?third":  func(n int) string { return "a@?b:" + strings.Repeat("a?b:", n-1) + "c" },
		"test":    func(n int) string { return strings.Repeat("(a==", n-1) + "a" + strings.Repeat(")", n-1) + "@<a" },
	}
	for _, sign := range strings.Fields("| ^ & + - *") {
		forms[sign+"left"] = func(n int) string { return "a" + strings.Repeat(sign+"a", n-1) + "@" + sign + "a" }
		forms[sign+"right"] = func(n int) string {
			return "a@" + sign + strings.Repeat("(a"+sign, n-1) + "a" + strings.Repeat(")", n-1)
		}
	}
	for _, sign := range strings.Fields("== != < <=") {
		forms[sign] = func(n int) string {
			return "a@" + sign + strings.Repeat("(a"+sign, n-1) + "a" + strings.Repeat(")", n-1)
		}
	}
	return forms
}

// B4: an expr that is 8 deep is read, one that is 9 deep is ErrBig at the token that makes it so.
func TestDepth(t *testing.T) {
	for name, form := range deepForms() {
		eight, _ := placed("module m() { next x = " + form(8) + "; reg y : 1 = 0; }")
		wantKept(t, eight, "m(x y)")
		nine, at := placed("module m() { next x = " + form(9) + "; reg y : 1 = 0; }")
		d, f := syn.Parse(nine)
		if len(f) == 0 || f[0] != big(at) || slices.ContainsFunc(d.Modules[0].Items, func(it api.Item) bool { return it.Name == "x" }) {
			t.Errorf("B4: %s: Parse(%q): %s, %v; want first %v", name, nine, kept(d), f, big(at))
		}
		if !strings.Contains(nine, "}; reg") {
			wantBig(t, "module m() { next x = "+form(9)+"; reg y : 1 = 0; }", "m(y)")
		}
	}
}

// B4: brackets make nothing deeper, and one expr's depth is not another's.
func TestDepthOfBrackets(t *testing.T) {
	wantKept(t, "module m() { next x = "+strings.Repeat("(", 9000)+"a"+strings.Repeat(")", 9000)+"; }", "m(x)")
	eight := "~~~~~~~~a"
	wantKept(t, "module m() { put x["+eight+"] = "+eight+" if "+eight+"; inst y n(p : "+eight+", q : "+eight+"); }", "m(x y)")
	wantBig(t, "module m() { put x[@~"+eight+"] = a if a; next y = a; }", "m(y)")
	wantBig(t, "module m() { put x[a] = @~"+eight+" if a; next y = a; }", "m(y)")
	wantBig(t, "module m() { put x[a] = a if @~"+eight+"; next y = a; }", "m(y)")
	wantBig(t, "module m() { inst x n(p : a, q : @~"+eight+"); next y = a; }", "m(y)")
}

// B4: the fault is the one of the expr that is through first, and of what is through ahead of a wrong token.
func TestDepthOrder(t *testing.T) {
	eight := "~~~~~~~~a"
	wantBig(t, "module m() { next x = ~~~@~"+eight+"; next y = a; }", "m(y)")
	wantBig(t, "module m() { next x = a@|"+eight+"|b; next y = a; }", "m(y)")
	wantBig(t, "module m() { next x = "+eight+"@|a|a|a; next y = a; }", "m(y)")
	wantBig(t, "module m() { next x = a ? b : a@?"+eight+":c; next y = a; }", "m(y)")
	wantBig(t, "module m() { next x = @~"+eight+" b; next y = a; }", "m(y)")
	wantBig(t, "module m() { next x = "+eight+" @== b == c; next y = a; }", "m(y)")
	wantBig(t, "module m() { next x = (a@|"+eight+"]; next y = a; }", "m(y)")
	// Not all of the expr is read where the wrong token stands.
	for _, x := range []string{"~" + eight + "[@;", "a|" + eight + "&@;", "any(" + eight + "@;", "a?" + eight + ":@;", "{a," + eight + "@;"} {
		s, at := placed("module m() { next x = " + x + " next y = a; }")
		wantKept(t, s, "m(y)", word(at))
	}
	// At the end, what is read is through; then there is no `;`.
	s := "module m() { next x = ~" + eight
	wantKept(t, s, "", big(22), end(len(s)))
	s = "module m() { next x = ~(" + eight
	wantKept(t, s, "", end(len(s)))
}

// B5: it goes on from the fault's token on, though more was read: a `}` within the expr counts.
func TestGoesOnFromToken(t *testing.T) {
	wantKept(t, "module m() { next x = {~~~~~~~~a, b}; next y = a; } module n() {}", "m() n()", big(22), word(36))
	wantKept(t, "module m() { next x = ~~~~~~~~~{a, b}; next y = a; } module n() {}", "m() n()", big(23), word(37))
	wantKept(t, "module m() { next x = {a, b}|~~~~~~~~~c; next y = a; } module n() {}", "m(y) n()", big(29))
	wantKept(t, "module m() { next x = {a}; next y = a; } module n() {}", "m() n()", word(24), word(25))
	wantKept(t, "module m() { next x = {a b, c}; next y = a; } module n() {}", "m() n()", word(25), word(30))
}

// B5: within an item, behind the next `;`, or at the next `}`.
func TestGoesOnWithinItem(t *testing.T) {
	wantKept(t, "module m() { wire x : ; wire y : 1 = a; }", "m(y)", word(22))
	wantKept(t, "module m() { wire x : 1 = a b ? ( { module in ; wire y : 1 = a; }", "m(y)", word(28))
	wantKept(t, "module m() { wire x : 1 = } module n() {}", "m() n()", word(26))
	wantKept(t, "module m() { wire x ( { } ; wire y : 1 = a; } module n() {}", "m() n()", word(20), word(26))
	wantKept(t, "module m() { wire x : 1 = a wire y : 1 = a; wire z : 1 = a; }", "m(z)", word(28))
	wantKept(t, "module m() { ; }", "m()", word(13))
	wantKept(t, "module m() { in x; out y = a; }", "m(y)", word(13))
	wantKept(t, "module m() { x }", "m()", word(13))
	wantKept(t, "module m() { module n() {} module o() {}", "m() o()", word(13))
	wantKept(t, "module m() { 1 } module n() { { }", "m() n()", word(13), word(30))
	wantKept(t, "module m() { next x = a; next y a; next z = a; } module n() { next y = a; }", "m(x z) n(y)", word(32))
}

// B5: outside of items, at the next `module`.
func TestGoesOnOutside(t *testing.T) {
	wantKept(t, "x", "", word(0))
	wantKept(t, "x y ; } {", "", word(0))
	wantKept(t, "} module m() {}", "m()", word(0))
	wantKept(t, "module m() {} ; module n() {}", "m() n()", word(14))
	wantKept(t, "module m() {} wire x : 1 = a; module n() {}", "m() n()", word(14))
	wantKept(t, "module m( {} } module n() {}", "n()", word(10))
	wantKept(t, "module m() module n() {}", "n()", word(11))
	wantKept(t, "module m<> () {} module n() {}", "n()", word(9))
	wantKept(t, "module m(in a : 1,) {} module n() {}", "n()", word(18))
	wantKept(t, "module m(wire a : 1) {} module n() {}", "n()", word(9))
	wantKept(t, "module m(in a : 1 + 1) {}", "", word(18))
	wantKept(t, "module m(in a : P + Q) {}", "", word(20))
	wantKept(t, "module module m() {} module module", "m()", word(7), word(28), end(34))
	// What was told of items stays told, though their module is not through.
	wantKept(t, "module m() { ? ; } x", "m()", word(13), word(19))
}

// B4, B5: at the end, and not on behind it.
func TestEnd(t *testing.T) {
	for _, s := range []string{
		"module", "module m", "module m<", "module m<P", "module m<P,", "module m<P>", "module m(", "module m(in",
		"module m(in a", "module m(in a :", "module m(in a : P", "module m(in a : P+", "module m(in a : 1,", "module m()",
		"module m() {", "module m() { wire", "module m() { next x = a;", "module m() { next x = a ", "module m() {//}",
		"module m() { next x = 1", "module m() { next x = a[", "module m() { next x = {a", "module m() { inst u m(",
	} {
		wantKept(t, s, "", end(len(s)))
		wantKept(t, "module k() { reg r : 1 = 0; } "+s+" ", "k(r)", end(30+len(s)+1))
		wantKept(t, "module k() { reg r : 1; } "+s, "k()", word(22), end(26+len(s)))
	}
	wantKept(t, "module m() { x", "", word(13), end(14))
	wantKept(t, "module m() { wire x y : \n", "", word(20), end(25))
}

// B5: behind 20 faults it does not go on, whatever the 20th is.
func TestTwentyFaults(t *testing.T) {
	items := func(n int) string { return "module m() { " + strings.Repeat("? ; ", n) }
	faults := func(n int) []api.Fault {
		var l []api.Fault
		for i := range n {
			l = append(l, word(13+4*i))
		}
		return l
	}
	wantKept(t, items(19)+"next x = a; } module n() {}", "m(x) n()", faults(19)...)
	wantKept(t, items(20)+"next x = a; } module n() {}", "", faults(20)...)
	wantKept(t, items(21)+"} module n() {}", "", faults(20)...)
	wantKept(t, items(19)+"} ?", "m()", append(faults(19), word(13+4*19+2))...)
	wantKept(t, items(19)+"} ? module n() {}", "m()", append(faults(19), word(13+4*19+2))...)
	wantKept(t, "module k() {} "+items(30), "k()", moved(faults(20), 14)...)
	// The end is a fault as well, and may be the 20th, but not the 21st.
	s := items(18) + "?"
	wantKept(t, s, "", append(faults(19), end(len(s)))...)
	wantKept(t, items(19)+"?", "", faults(20)...)
	s = items(19)
	wantKept(t, s, "", append(faults(19), end(len(s)))...)
	wantKept(t, items(20), "", faults(20)...)

	outside := strings.Repeat("module 1 ", 30)
	var want []api.Fault
	for i := range 20 {
		want = append(want, word(7+9*i))
	}
	// The 17th and all others are too many.
	for i := 16; i < 20; i++ {
		want[i] = big(9 * i)
	}
	wantFaults(t, outside, want...)
	wantFaults(t, strings.Repeat("module m() {} ", 50), bigs(16, 20, 14)...)
}

func bigs(first, n, size int) []api.Fault {
	var l []api.Fault
	for i := range n {
		l = append(l, big((first+i)*size))
	}
	return l
}

func moved(l []api.Fault, by int) []api.Fault {
	l = slices.Clone(l)
	for i := range l {
		l[i].At += by
	}
	return l
}

// P1: texts as long and as deep as they may be end, and soon.
func TestLongTexts(t *testing.T) {
	for _, piece := range []string{"(", "~", "any(", "{", "{a,", "a?", "a?b:", "a|", "a|(", "at(m,", "~(", "a[1]", "a&~(", "b"} {
		open := "module m() { assert p : "
		s := open + strings.Repeat(piece, (20000-len(open))/len(piece))
		if _, f := syn.Parse(s); len(f) == 0 || f[len(f)-1] != end(len(s)) {
			t.Errorf("P1: %q: %v", piece, f)
		}
	}
	for _, piece := range []string{"module ", "module m(){}", "module m(){", "x", ";", "}", "{", "module m(){;}"} {
		d, f := syn.Parse(strings.Repeat(piece, 20000/len(piece)))
		if len(d.Modules) > 16 || len(f) == 0 || len(f) > 20 {
			t.Errorf("P1: %q: %d modules, %v", piece, len(d.Modules), f)
		}
	}
}

// A fault has neither a module nor an item here.
func TestFaultsAlone(t *testing.T) {
	for _, s := range []string{"@", "x", "module m() { x; } module n() { x; y; }", "module m("} {
		_, f := syn.Parse(s)
		for _, x := range f {
			if x.Mod != 0 || x.Item != 0 {
				t.Errorf("%q: %+v", s, x)
			}
		}
	}
}
