package show_test

import (
	"reflect"
	"testing"

	"proofmark/api"
	"proofmark/show"
	"proofmark/syn"
)

// everyField has something at each place of a design, right or not.
func everyField() api.Design {
	leaf := api.Expr{Op: 99, Val: dim("a", 1), Wid: dim("b", 2), Hi: dim("c", 3), Lo: dim("d", 4), Name: "e"}
	e := leaf
	e.Kids = []api.Expr{leaf, {Op: 5, Kids: []api.Expr{leaf, leaf}}}
	it := api.Item{Kind: 77, Name: "i", Wid: dim("j", 5), Val: dim("k", 6), Mod: "l", Args: []api.Dim{num(-1), dim("m", 7)},
		Binds: []api.Bind{{Port: "o", E: e}, {Port: "p", E: leaf}}, E: e, At: e, If: e}
	m := api.Module{Name: "q", Params: []string{"r", ""}, Ports: []api.Port{{In: true, Name: "s", Wid: dim("t", 8)}, {Name: "u"}},
		Items: []api.Item{it, {}}}
	return design(m, api.Module{}, m)
}

// C6: one place that is another one makes two designs; each place once.
func TestSameEachPlace(t *testing.T) {
	n := 0
	a := everyField()
	for i := range placesOf(&a) {
		a, b := everyField(), everyField()
		checkPair(t, a, b)
		v := placesOf(&b)[i]
		switch v.Kind() {
		case reflect.Bool:
			v.SetBool(!v.Bool())
		case reflect.Int:
			v.SetInt(v.Int() + 1)
		case reflect.String:
			v.SetString(v.String() + "x")
		case reflect.Slice:
			v.Set(reflect.Append(v.Slice3(0, v.Len(), v.Len()), reflect.Zero(v.Type().Elem())))
		}
		if show.Same(a, b) || show.Same(b, a) {
			t.Errorf("C6: place %d, %v, is another one", i, v)
		}
		n++
	}
	if n < 500 {
		t.Errorf("%d places", n)
	}
}

// C6: order counts, and what stands twice.
func TestSameOrder(t *testing.T) {
	m, n := api.Module{Name: "m"}, api.Module{Name: "n"}
	a, b := ref("a"), ref("b")
	for _, x := range [][2]api.Design{
		{design(m, n), design(n, m)}, {design(m), design(m, m)}, {design(), design(m)}, {design(), design(api.Module{})},
		{items(cover(a), cover(b)), items(cover(b), cover(a))},
		{items(cover(of(api.Add, a, b))), items(cover(of(api.Add, b, a)))},
		{items(cover(of(api.Add, a, of(api.Add, a, a)))), items(cover(of(api.Add, of(api.Add, a, a), a)))},
		{items(cover(a)), items(cover(api.Expr{}))},
		{items(api.Item{E: a}), items(api.Item{At: a})},
		{design(api.Module{Params: []string{"a", "b"}}), design(api.Module{Params: []string{"b", "a"}})},
	} {
		checkPair(t, x[0], x[1])
		if show.Same(x[0], x[1]) {
			t.Errorf("C6: %+v and %+v", x[0], x[1])
		}
	}
}

// C6: an empty row and none are alike, each row once.
func TestSameEmptyRows(t *testing.T) {
	empty := 0
	a := everyField()
	for i, v := range placesOf(&a) {
		if v.Kind() != reflect.Slice {
			continue
		}
		none, other, some := everyField(), everyField(), everyField()
		placesOf(&none)[i].SetZero()
		placesOf(&other)[i].Set(reflect.MakeSlice(v.Type(), 0, 3))
		if !show.Same(none, other) || !show.Same(other, none) {
			t.Errorf("C6: place %d: an empty row and none", i)
		}
		checkPair(t, none, some)
		checkPair(t, some, other)
		empty++
	}
	if empty < 50 {
		t.Errorf("%d rows", empty)
	}
	if !show.Same(api.Design{}, design([]api.Module{}...)) || !show.Same(api.Design{}, api.Design{Modules: []api.Module{}}) {
		t.Error("C6: the empty design")
	}
}

// C6: rows that begin at one place, and have another length.
func TestSameSharedRows(t *testing.T) {
	row := []api.Expr{ref("a"), ref("a"), ref("b")}
	two, three := of(api.Add, row[:2]...), of(api.Add, row...)
	checkPair(t, items(cover(two), cover(three)), items(cover(two), cover(three)))
	checkPair(t, items(cover(two), cover(two)), items(cover(two), cover(three)))
	checkPair(t, items(cover(of(api.Add, row[:1]...))), items(cover(of(api.Add, row[1:2]...))))
	// Both first pairs begin where both second ones do, and these differ at their ends.
	other := []api.Expr{ref("a"), ref("a"), ref("c")}
	for n := range 4 {
		checkPair(t, items(cover(two), cover(of(api.Add, row[:n]...))), items(cover(of(api.Add, other[:2]...)), cover(of(api.Add, other[:n]...))))
	}
	checkPair(t, items(cover(of(api.Add, row[:2]...))), items(cover(of(api.Add, row[1:]...))))
}

// C6: what was parsed twice, laid out in two ways.
func TestSameParsed(t *testing.T) {
	a, _ := syn.Parse("module m(in a : 1) { assert p : a | (a); }")
	b, _ := syn.Parse("// m\nmodule m ( in a:1 ){assert p:((a)|a);}")
	checkPair(t, a, b)
	if !show.Same(a, b) {
		t.Error("C6: the layout")
	}
}

// deepChain is n deep, with a name at its end.
func deepChain(n int, name string) api.Design {
	e := ref(name)
	for range n {
		e = of(api.Inv, e)
	}
	return items(cover(e))
}

// P1: exprs that are very deep, that stand in very many places, or within themselves.
func TestSameEndless(t *testing.T) {
	a := deepChain(1500000, "a")
	if !show.Same(a, deepChain(1500000, "a")) || show.Same(a, deepChain(1500000, "b")) {
		t.Error("C6: deep")
	}
	many := func(name string) api.Design {
		e := ref(name)
		for range 200 {
			e = of(api.Add, e, e)
		}
		return items(cover(e))
	}
	if !show.Same(many("a"), many("a")) || show.Same(many("a"), many("b")) {
		t.Error("C6: many")
	}
	round := func(n int, ops ...int) api.Design {
		l := make([][]api.Expr, len(ops))
		for i := range l {
			l[i] = make([]api.Expr, n)
		}
		for i, op := range ops {
			for j := range l[i] {
				l[i][j] = api.Expr{Op: op, Kids: l[(i+1)%len(l)]}
			}
		}
		return items(cover(l[0][0]))
	}
	x := round(2, 1, 2)
	if !show.Same(x, x) || !show.Same(x, round(2, 1, 2)) || !show.Same(x, round(2, 1, 2, 1, 2, 1, 2)) || !show.Same(round(1, 3, 3), round(1, 3, 3, 3)) {
		t.Error("C6: the same, round")
	}
	if show.Same(x, round(3, 1, 2)) || show.Same(x, round(2, 1, 2, 2)) || show.Same(x, round(2, 2, 1)) || show.Same(x, round(2, 1, 2, 1, 2, 1, 3)) {
		t.Error("C6: not the same, round")
	}
}
