package show_test

import (
	"reflect"
	"slices"
	"strings"
	"testing"

	"proofmark/api"
	"proofmark/show"
)

var noNames = []string{"", "module", "in", "out", "wire", "reg", "mem", "inst", "assert", "assume", "cover", "next", "put", "if", "any",
	"all", "past", "at", " ", " a", "a ", "a b", "\ta", "a\n", "\na", "a//", "a// b", "//", "//a\nb", ".", "a.", ".a", "a.b.c", "a..b", "a. b",
	"1", "1a", "0", "a-b", "a+1", "a'1", "'", "~a", "(a)", "a;", "é", "aé", "\x00", "a\x00", "a\r", "@", "a,b", strings.Repeat("a", 20001)}

var names = []string{"a", "Z", "_", "__", "a1", "_1", "In", "WIRE", "modules", "i", "ats", "at_", "x_y_Z9", "if0", strings.Repeat("a", 19000)}

// named are designs with a name at each of the places where one must stand.
func named(s string) map[string]api.Design {
	a := ref("a")
	return map[string]api.Design{
		"module":    design(api.Module{Name: s}),
		"param":     design(api.Module{Name: "m", Params: []string{"P", s}}),
		"port":      design(api.Module{Name: "m", Ports: []api.Port{{Name: "a"}, {Name: s}}}),
		"wire":      items(api.Item{Kind: api.Wire, Name: s, E: a}),
		"reg":       items(api.Item{Kind: api.Reg, Name: s}),
		"next":      items(api.Item{Kind: api.Next, Name: s, E: a}),
		"drive":     items(api.Item{Kind: api.Drive, Name: s, E: a}),
		"mem":       items(api.Item{Kind: api.Mem, Name: s}),
		"put":       items(api.Item{Kind: api.Put, Name: s, At: a, E: a, If: a}),
		"inst":      items(api.Item{Kind: api.Inst, Name: s, Mod: "m"}),
		"mod":       items(api.Item{Kind: api.Inst, Name: "u", Mod: s}),
		"bind":      items(api.Item{Kind: api.Inst, Name: "u", Mod: "m", Binds: []api.Bind{{Port: "a", E: a}, {Port: s, E: a}}}),
		"assert":    items(api.Item{Kind: api.Assert, Name: s, E: a}),
		"assume":    items(api.Item{Kind: api.Assume, Name: s, E: a}),
		"cover":     items(api.Item{Kind: api.Cover, Name: s, E: a}),
		"ref":       items(cover(ref(s))),
		"read":      items(cover(read(s, a))),
		"instance.": items(cover(ref(s + ".a"))),
		".port":     items(cover(ref("a." + s))),
	}
}

// C1: names, wherever one must stand.
func TestNames(t *testing.T) {
	for _, s := range names {
		for place, d := range named(s) {
			if !show.Right(d) {
				t.Errorf("C1: %s: %q is a name", place, brief(s))
			}
			checkBack(t, d)
		}
	}
	for _, s := range append(noNames, "a.b") {
		for place, d := range named(s) {
			if place == "ref" && s == "a.b" {
				continue
			}
			wantWrong(t, "C1: "+place, d)
		}
	}
	wantExpr(t, ref("a.b"), "a.b")
}

// dims are designs with a dim at each of the places where one must stand.
func dims(d api.Dim) map[string]api.Design {
	a := ref("a")
	return map[string]api.Design{
		"port": design(api.Module{Name: "m", Ports: []api.Port{{Name: "a", Wid: d}}}),
		"wire": items(api.Item{Kind: api.Wire, Name: "w", Wid: d, E: a}),
		"reg":  items(api.Item{Kind: api.Reg, Name: "r", Wid: d}),
		"val":  items(api.Item{Kind: api.Reg, Name: "r", Val: d}),
		"mem":  items(api.Item{Kind: api.Mem, Name: "m", Val: d}),
		"word": items(api.Item{Kind: api.Mem, Name: "m", Wid: d}),
		"arg":  items(api.Item{Kind: api.Inst, Name: "u", Mod: "m", Args: []api.Dim{{}, d}}),
		"hi":   items(cover(slice(a, d, num(7)))),
		"lo":   items(cover(slice(a, num(7), d))),
		"bit":  items(cover(slice(a, d, d))),
	}
}

// C1: dims, wherever one must stand; of a Lit plain ones.
func TestDims(t *testing.T) {
	for _, n := range []int{0, 1, 65534, 65535} {
		for _, s := range []string{"", "P"} {
			x := dim(s, n)
			for place, d := range dims(x) {
				if !show.Right(d) {
					t.Errorf("C1: %s: %+v is right", place, x)
				}
				checkBack(t, d)
			}
			plain := s == "" || n == 0
			for _, e := range []api.Expr{lit(x, num(1)), lit(num(1), x), lit(x, x)} {
				if (show.Expr(e) != "") != plain || show.Right(items(cover(e))) != plain {
					t.Errorf("C2: %+v is a Lit: %q", e, show.Expr(e))
				}
			}
		}
	}
	wrong := []api.Dim{num(65536), num(-1), num(1 << 62), num(-1 << 63), dim("P", 65536), dim("P", -1), dim("P", 1<<40)}
	for _, s := range noNames[1:] {
		wrong = append(wrong, dim(s, 0), dim(s, 1))
	}
	for _, x := range append(wrong, dim("a.b", 0)) {
		for place, d := range dims(x) {
			wantWrong(t, "C1: "+place, d)
		}
		wantWrongExpr(t, "C1: wid", lit(x, num(1)))
		wantWrongExpr(t, "C1: val", lit(num(1), x))
	}
}

// C2, C3: an Op or a Kind that there is none of.
func TestNoSuch(t *testing.T) {
	a := ref("a")
	for _, op := range []int{0, -1, api.In, api.State, 23, 1 << 40, -1 << 63} {
		for kids := range 4 {
			e := of(op, slices.Repeat([]api.Expr{a}, kids)...)
			wantWrongExpr(t, "C2: Op", e)
			wantWrongExpr(t, "C2: Op within", of(api.Inv, e))
			e.Name = "a"
			wantWrongExpr(t, "C2: Op", e)
		}
	}
	for _, kind := range []int{0, -1, 11, 12, 1 << 40, -1 << 63} {
		wantWrong(t, "C3: Kind", items(api.Item{Kind: kind, Name: "x"}))
		wantWrong(t, "C3: Kind", items(api.Item{Kind: kind, Name: "x", E: a}))
		wantWrong(t, "C3: Kind", items(cover(a), api.Item{Kind: kind, Name: "x", Wid: num(1), E: a}))
	}
	wantWrong(t, "C3: an empty module", design(api.Module{}))
	wantWrong(t, "C3: an empty item", items(api.Item{}))
	wantWrong(t, "C3: an empty port", design(api.Module{Name: "m", Ports: make([]api.Port, 1)}))
	wantWrongExpr(t, "C2: an empty expr", api.Expr{})
}

// C2: too few Kids, too many, and wrong ones, of each Op.
func TestKids(t *testing.T) {
	a := ref("a")
	for _, e := range kidsOfEach() {
		right := len(e.Kids)
		for n := range 6 {
			e.Kids = slices.Repeat([]api.Expr{a}, n)
			if n != right {
				wantWrongExpr(t, "C2: Kids", e)
				continue
			}
			if show.Expr(e) == "" {
				t.Errorf("C2: %+v is right", e)
			}
			for i := range n {
				e.Kids = slices.Repeat([]api.Expr{a}, n)
				e.Kids[i] = api.Expr{}
				wantWrongExpr(t, "C2: a wrong Kid", e)
				e.Kids[i] = api.Expr{Op: api.Ref, Name: "a", Wid: num(1)}
				wantWrongExpr(t, "C2: a wrong Kid", e)
			}
			e.Kids = slices.Repeat([]api.Expr{a}, n)
		}
	}
}

// full is right but for what must be zero: each field that is zero of a right thing is set to what would be right elsewhere.
var fullExpr = api.Expr{Val: num(1), Wid: num(1), Hi: num(1), Lo: num(1), Name: "a"}

var fullItem = api.Item{Wid: num(1), Val: num(1), Mod: "m", Args: []api.Dim{{}}, Binds: []api.Bind{{Port: "a", E: ref("a")}},
	E: ref("a"), At: ref("a"), If: ref("a")}

// C2: each field that must be zero, of each Op.
func TestExprZeros(t *testing.T) {
	for _, e := range kidsOfEach() {
		for i := range reflect.TypeOf(e).NumField() {
			field := reflect.TypeOf(e).Field(i).Name
			if field == "Op" || field == "Kids" || strings.Contains(namedFields(exprForms[e.Op]), field) {
				continue
			}
			x := e
			reflect.ValueOf(&x).Elem().Field(i).Set(reflect.ValueOf(fullExpr).Field(i))
			wantWrongExpr(t, "C2: "+field, x)
			wantWrongExpr(t, "C2: "+field, of(api.Cat, ref("a"), x))
		}
		if len(e.Kids) == 0 {
			e.Kids = []api.Expr{}
			if show.Expr(e) == "" {
				t.Errorf("P3: %+v: an empty row may be nil or not", e)
			}
		}
	}
}

// C3: each field that must be zero, and each that must not, of each Kind.
func TestItemZeros(t *testing.T) {
	for kind, form := range itemForms {
		right := api.Item{Kind: kind, Name: "x", Args: []api.Dim{}, Binds: []api.Bind{}}
		v := reflect.ValueOf(&right).Elem()
		for _, field := range strings.Fields(namedFields(form)) {
			if field != "Name" {
				v.FieldByName(field).Set(reflect.ValueOf(fullItem).FieldByName(field))
			}
		}
		if !show.Right(items(right)) {
			t.Errorf("C3: %+v is right", right)
		}
		for i := range v.NumField() {
			field := v.Type().Field(i).Name
			if field == "Kind" || field == "Name" {
				continue
			}
			x := right
			if !strings.Contains(namedFields(form), field) {
				reflect.ValueOf(&x).Elem().Field(i).Set(reflect.ValueOf(fullItem).Field(i))
				wantWrong(t, "C3: "+field, items(x))
				wantWrong(t, "C3: "+field, items(cover(ref("a")), x))
				continue
			}
			reflect.ValueOf(&x).Elem().Field(i).SetZero()
			needed := field == "Mod" || field == "E" || field == "At" || field == "If"
			if show.Right(items(x)) == needed {
				t.Errorf("C3: %+v, without %s: right is %t", right, field, !needed)
			}
		}
		badExprs(t, right, form)
	}
}

// An expr of an item that has but one field is not zero.
func badExprs(t *testing.T, right api.Item, form string) {
	t.Helper()
	for _, field := range []string{"E", "At", "If"} {
		for _, e := range []api.Expr{{Op: api.Lit}, {Op: 99}, {Val: num(1)}, {Wid: num(1)}, {Hi: num(1)}, {Lo: num(1)}, {Hi: dim("P", 0)},
			{Name: "a"}, {Kids: make([]api.Expr, 1)}} {
			x := right
			reflect.ValueOf(&x).Elem().FieldByName(field).Set(reflect.ValueOf(e))
			if strings.Contains(namedFields(form), field) && e.Op == api.Lit {
				continue
			}
			wantWrong(t, "C3: "+field, items(x))
		}
	}
	if !strings.Contains(form, "$B") {
		return
	}
	right.Binds = []api.Bind{{Port: "a", E: api.Expr{}}}
	wantWrong(t, "C3: bind", items(right))
}

// namedFields are those of a form, with blanks around.
func namedFields(form string) string {
	s := " "
	for i := range len(form) {
		if form[i] == '$' {
			s += fieldOf[form[i+1]] + " "
		}
	}
	return s
}

// C3: as many as there may be, and one more.
func TestBounds(t *testing.T) {
	a := ref("a")
	inst := api.Item{Kind: api.Inst, Name: "u", Mod: "m"}
	for name, x := range map[string]struct {
		most int
		make func(n int) api.Design
	}{
		"modules": {16, func(n int) api.Design { return design(slices.Repeat([]api.Module{{Name: "m"}}, n)...) }},
		"params": {4, func(n int) api.Design {
			return design(api.Module{Name: "m", Params: slices.Repeat([]string{"P"}, n)})
		}},
		"ports": {16, func(n int) api.Design {
			return design(api.Module{Name: "m", Ports: slices.Repeat([]api.Port{{Name: "a"}}, n)})
		}},
		"items": {64, func(n int) api.Design { return items(slices.Repeat([]api.Item{cover(a)}, n)...) }},
		"args": {4, func(n int) api.Design {
			it := inst
			it.Args = make([]api.Dim, n)
			return items(it)
		}},
		"binds": {16, func(n int) api.Design {
			it := inst
			it.Binds = slices.Repeat([]api.Bind{{Port: "a", E: a}}, n)
			return items(it)
		}},
	} {
		for _, n := range []int{0, 1, x.most - 1, x.most} {
			d := x.make(n)
			if !show.Right(d) {
				t.Errorf("C3: %d %s are right", n, name)
			}
			checkTold(t, d)
			checkBack(t, d)
		}
		for _, n := range []int{x.most + 1, x.most + 2, 2 * x.most, 3000} {
			wantWrong(t, "C3: "+name, x.make(n))
		}
	}
	// Each module has bounds of its own.
	full := api.Module{Name: "m", Params: slices.Repeat([]string{"P"}, 4), Ports: slices.Repeat([]api.Port{{Name: "a"}}, 16),
		Items: slices.Repeat([]api.Item{cover(a)}, 64)}
	d := design(slices.Repeat([]api.Module{full}, 15)...)
	if !show.Right(d) {
		t.Error("C3: fifteen full modules are right")
	}
	checkBack(t, d)
}

// nested are exprs of each Op that are n deep, at each place of a Kid.
func nested(n int) []api.Expr {
	var l []api.Expr
	for _, e := range kidsOfEach() {
		for place := range e.Kids {
			x := ref("a")
			for range n {
				kids := slices.Clone(e.Kids)
				kids[place] = x
				x = e
				x.Kids = kids
			}
			l = append(l, x)
		}
	}
	return l
}

// C2: an expr that is 8 deep, and one that is 9 deep.
func TestDepth(t *testing.T) {
	for _, e := range nested(8) {
		if show.Expr(e) == "" {
			t.Errorf("C2: %s is right", brief(e))
		}
		checkExpr(t, e)
		checkStands(t, e)
	}
	for _, n := range []int{9, 10, 5000} {
		for _, e := range nested(n) {
			wantWrongExpr(t, "C2: depth", e)
			a := ref("a")
			wantWrong(t, "C2: depth", items(api.Item{Kind: api.Put, Name: "m", At: a, E: a, If: e}))
			wantWrong(t, "C2: depth", items(api.Item{Kind: api.Put, Name: "m", At: e, E: a, If: a}))
			wantWrong(t, "C2: depth", items(api.Item{Kind: api.Inst, Name: "u", Mod: "m", Binds: []api.Bind{{Port: "a", E: a}, {Port: "b", E: e}}}))
		}
	}
	// A Lit or a Ref 8 down is no deeper; a Kid too many there is wrong all the same.
	e := lit(num(1), num(1))
	e.Kids = []api.Expr{ref("a")}
	for range 8 {
		e = of(api.Inv, e)
	}
	wantWrongExpr(t, "C2: depth", e)
}

// C3: a text of 20000 bytes, and one of 20001, whatever its last bytes are.
func TestLength(t *testing.T) {
	long := func(n int) string { return strings.Repeat("n", n) }
	a := ref("a")
	for name, make := range map[string]func(n int) api.Design{
		"module": func(n int) api.Design { return design(api.Module{Name: long(n)}) },
		"param":  func(n int) api.Design { return design(api.Module{Name: "m", Params: []string{"P", long(n)}}) },
		"port":   func(n int) api.Design { return design(api.Module{Name: "m", Ports: []api.Port{{Name: long(n)}}}) },
		"wid": func(n int) api.Design {
			return design(api.Module{Name: "m", Ports: []api.Port{{Name: "a", Wid: dim(long(n), 7)}}})
		},
		"item":   func(n int) api.Design { return items(cover(ref(long(n)))) },
		"mod":    func(n int) api.Design { return items(api.Item{Kind: api.Inst, Name: "u", Mod: long(n)}) },
		"second": func(n int) api.Design { return design(api.Module{Name: "a"}, api.Module{Name: long(n)}) },
		"inner": func(n int) api.Design {
			return items(cover(of(api.And, of(api.Or, a, ref("u."+long(n))), a)), api.Item{Kind: api.Reg, Name: "r"})
		},
	} {
		n := 20001 - len(tellDesign(make(1)).text)
		for i := range 4 {
			d := make(n - i)
			if len(show.Text(d)) != 20000-i || !show.Right(d) {
				t.Errorf("C3: %s: %d bytes, right is %t; want %d", name, len(show.Text(d)), show.Right(d), 20000-i)
			}
			checkBack(t, d)
		}
		for i := 1; i < 30; i++ {
			if d := make(n + i); show.Right(d) || show.Text(d) != "" {
				t.Errorf("C3: %s: %d bytes are right", name, 20000+i)
			}
		}
	}
}

// C4: an expr's text may be as long as it will; a name is no longer than lex takes it.
func TestLongExprs(t *testing.T) {
	long := strings.Repeat("n", 20000)
	for _, s := range []string{long, long + "." + long} {
		if show.Expr(ref(s)) != s {
			t.Errorf("C4: a Ref of %d bytes is right", len(s))
		}
	}
	for _, s := range []string{long + "n", "a." + long + "n", long + "n.a"} {
		if show.Expr(ref(s)) != "" {
			t.Errorf("C1: %d bytes are no name", len(s))
		}
	}
	e := ref("abc")
	for range 8 {
		e = of(api.Mux, e, e, e)
	}
	// 3^8 leaves; each of 3280 Muxes is written with two signs, and all first ones of others stand in brackets.
	if want := 6561*3 + 3280*6 + 1093*2; len(show.Expr(e)) != want {
		t.Errorf("C4: %d bytes; want %d", len(show.Expr(e)), want)
	}
	checkExpr(t, e)
	wantWrong(t, "C3: length", items(cover(e)))
}

// P1: what is far too great, or has no end, is wrong soon.
func TestEndless(t *testing.T) {
	round := make([]api.Expr, 2)
	for i := range round {
		round[i] = of(api.Add, round...)
	}
	wantEndlessWrong(t, round[0])
	for op := range 24 {
		for n := 1; n < 4; n++ {
			l := make([]api.Expr, n)
			for i := range l {
				l[i] = api.Expr{Op: op, Kids: l}
			}
			wantEndlessWrong(t, l[0])
		}
	}
	e := ref("a")
	for range 100 {
		e = of(api.Mux, e, e, e)
	}
	wantEndlessWrong(t, e)

	// Each of these would be right alone, but for its length.
	e = ref(strings.Repeat("n", 15000))
	for range 8 {
		e = of(api.Mux, e, e, e)
	}
	inst := api.Item{Kind: api.Inst, Name: "u", Mod: "m", Binds: slices.Repeat([]api.Bind{{Port: "a", E: e}}, 16)}
	m := api.Module{Name: "m", Items: slices.Repeat([]api.Item{inst}, 64)}
	if d := design(slices.Repeat([]api.Module{m}, 16)...); show.Right(d) || show.Text(d) != "" {
		t.Error("C3: a text of more than 20000 bytes")
	}
}

func wantEndlessWrong(t *testing.T, e api.Expr) {
	t.Helper()
	d := items(cover(e))
	if show.Expr(e) != "" || show.Right(d) || show.Text(d) != "" {
		t.Errorf("C2: an endless expr of Op %d is right", e.Op)
	}
}
