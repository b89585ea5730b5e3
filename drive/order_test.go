package drive_test

import (
	"slices"
	"strconv"
	"testing"

	"proofmark/api"
	"proofmark/drive"
	"proofmark/scope"
)

// P7.1, G2: what hangs on nothing comes in the order of Items.
func TestLeastFirst(t *testing.T) {
	wantClear(t, "wire a : 1 = i; wire b : 1 = k; wire c : 1 = 1'1;", 0, 1, 2)
	wantClear(t, "wire c : 1 = i; inst b low(a : i, c : k); wire a : 1 = 1'1;", 0, 1, 2)
	d := parsed(t, "module top(out o : 1, out p : 1) { out p = 1'1; wire a : 1 = 1'0; out o = 1'0; reg r : 1 = 0; wire b : 1 = r; }")
	wantFaults(t, "all kinds", d, 0)
	wantOrder(t, "all kinds", d, 0, 0, 1, 2, 4)
}

// P7.1, G2: behind each item the least that may come next is looked for anew.
func TestLeastNext(t *testing.T) {
	// As soon as its own is through, a lesser item comes ahead of greater ones.
	wantClear(t, "wire a : 1 = b; wire b : 1 = i; wire c : 1 = i;", 1, 0, 2)
	wantClear(t, "wire a : 1 = c; wire b : 1 = i; wire c : 1 = i;", 1, 2, 0)
	wantClear(t, "wire a : 1 = b; wire b : 1 = d; wire c : 1 = i; wire d : 1 = i; wire e : 1 = i;", 2, 3, 1, 0, 4)
	wantClear(t, "wire a : 1 = c & d; wire b : 1 = d; wire c : 1 = i; wire d : 1 = i; wire e : 1 = i;", 2, 3, 0, 1, 4)
	// Not the least that another one needs, but the least that may come.
	wantClear(t, "wire a : 1 = d; wire b : 1 = c; wire c : 1 = i; wire d : 1 = i;", 2, 1, 3, 0)
	wantClear(t, "wire a : 1 = e; wire b : 1 = i; wire c : 1 = d; wire d : 1 = i; wire e : 1 = i;", 1, 3, 2, 4, 0)
	wantClear(t, "wire a : 1 = b & c; wire b : 1 = i; wire c : 1 = b; wire d : 1 = i;", 1, 2, 0, 3)
	wantClear(t, "wire e : 1 = d; wire d : 1 = c; wire c : 1 = b; wire b : 1 = a; wire a : 1 = i;", 4, 3, 2, 1, 0)
}

// P7.1, G2: Drives stand behind what they hang on, each that there is; nothing hangs on them.
func TestDrivesInOrder(t *testing.T) {
	d := parsed(t, lower+"module top(in i : 1, out o : 1, out p : 1) { out o = a; out p = i; wire a : 1 = u.b; out o = i; inst u low(a : i, c : i); }")
	wantFaults(t, "a Drive twice", d, 1, many(3))
	wantOrder(t, "a Drive twice", d, 1, 1, 3, 4, 2, 0)
	d = parsed(t, "module top(in i : 1, out o : 1) { out o = a; wire a : 1 = i; reg r : 1 = 0; next r = i; next r = a; }")
	wantFaults(t, "a Next twice", d, 0, api.Fault{Err: api.ErrMany, Item: 4})
	wantOrder(t, "a Next twice", d, 0, 1, 0)
	d = parsed(t, "module top(in i : 1, out o : 1) { wire b : 1 = a; wire a : 1 = i; }")
	wantFaults(t, "an open port", d, 0, api.Fault{Err: api.ErrOpen, Item: -1})
	wantOrder(t, "an open port", d, 0, 1, 0)
}

func ref(name string) api.Expr { return api.Expr{Op: api.Ref, Name: name} }

func of(op int, kids ...api.Expr) api.Expr { return api.Expr{Op: op, Kids: kids} }

func bit() api.Expr { return api.Expr{Op: api.Lit, Wid: api.Dim{N: 1}} }

func wire(name string, e api.Expr) api.Item {
	return api.Item{Kind: api.Wire, Name: name, Wid: api.Dim{N: 1}, E: e}
}

// alone is a design of one module, with a memory ahead of its items, and nothing else.
func alone(items ...api.Item) api.Design {
	mem := api.Item{Kind: api.Mem, Name: "m", Val: api.Dim{N: 1}, Wid: api.Dim{N: 1}}
	return api.Design{Modules: []api.Module{{Name: "top", Items: append([]api.Item{mem}, items...)}}}
}

var taken = map[int]int{
	api.Inv: 1, api.RedOr: 1, api.RedAnd: 1, api.Slice: 1, api.Read: 1, api.Mux: 3,
	api.And: 2, api.Or: 2, api.Xor: 2, api.Add: 2, api.Sub: 2, api.Mul: 2,
	api.Eq: 2, api.Ne: 2, api.Lt: 2, api.Le: 2, api.Cat: 2,
}

// withRef is an expression of an Op, of which one Kid is that Ref.
func withRef(op, kid int, name string) api.Expr {
	e := api.Expr{Op: op, Name: "m"}
	for i := range taken[op] {
		if i == kid {
			e.Kids = append(e.Kids, ref(name))
		} else {
			e.Kids = append(e.Kids, bit())
		}
	}
	return e
}

// P7.1: each Kid of each Op counts, but for that of Past.
func TestEachKid(t *testing.T) {
	for op, n := range taken {
		for kid := range n {
			what := "Op " + strconv.Itoa(op) + ", Kid " + strconv.Itoa(kid)
			d := alone(wire("a", withRef(op, kid, "a")))
			wantFaults(t, what, d, 0, api.Fault{Err: api.ErrRound, Item: 1})
			wantNoOrder(t, what, d, 0)
			d = alone(wire("a", withRef(op, kid, "b")), wire("b", bit()))
			wantFaults(t, what, d, 0)
			wantOrder(t, what, d, 0, 2, 1)
			d = alone(wire("a", of(api.Past, withRef(op, kid, "a"))), wire("b", of(api.Inv, withRef(op, kid, "a"))))
			wantFaults(t, what, d, 0)
			wantOrder(t, what, d, 0, 1, 2)
		}
	}
}

// P7.1: a name counts where it is that of a Ref alone.
func TestNamesOfOthers(t *testing.T) {
	lit := bit()
	lit.Name = "a"
	inv := of(api.Inv, bit())
	inv.Name = "a"
	d := alone(wire("b", lit), wire("c", inv), wire("a", lit))
	wantFaults(t, "names of no Refs", d, 0)
	wantOrder(t, "names of no Refs", d, 0, 1, 2, 3)
}

// P7.1: names that may not be written: a Ref with a dot is an instance's port, split at its first dot.
func TestOddNames(t *testing.T) {
	outs := api.Module{Name: "u", Ports: []api.Port{{Name: "b"}, {Name: "x.b"}, {Name: ""}}}
	inst := func(name string) api.Item { return api.Item{Kind: api.Inst, Name: name, Mod: "u"} }
	top := api.Module{Name: "t", Items: []api.Item{
		wire("v.b", ref("v.b")), wire("w", ref("v.x.b")), wire("x", ref(".b")), wire("z", ref("v.")), wire("y", ref(".")),
		inst("v.x"), inst("v"), inst(""),
	}}
	d := api.Design{Modules: []api.Module{outs, top}}
	if faults := scope.Check(d); len(faults) > 0 {
		t.Fatalf("odd names have faults: %v", faults)
	}
	wantFaults(t, "odd names", d, 1)
	wantOrder(t, "odd names", d, 1, 5, 6, 0, 1, 3, 7, 2, 4)
	d = alone(wire("", ref("")), wire("b", ref("")))
	wantFaults(t, "an empty name", d, 0, api.Fault{Err: api.ErrRound, Item: 1})
}

// The rule P1: an expression may be deeper than calls can be within one another.
func TestDeep(t *testing.T) {
	e := ref("b")
	for range 1500000 {
		e = of(api.Inv, e)
	}
	d := alone(wire("a", e), wire("b", bit()))
	wantFaults(t, "deep", d, 0)
	wantOrder(t, "deep", d, 0, 2, 1)
	d = alone(wire("b", e))
	wantFaults(t, "deep", d, 0, api.Fault{Err: api.ErrRound, Item: 1})
}

// The rule P1: a row of Kids may stand in very many places, within a Past and outside it, and within itself.
func TestShared(t *testing.T) {
	e := ref("b")
	for range 200 {
		e = of(api.And, e, e)
	}
	d := alone(wire("a", e), wire("b", bit()))
	wantFaults(t, "shared", d, 0)
	wantOrder(t, "shared", d, 0, 2, 1)
	kids := []api.Expr{ref("a")}
	for _, ops := range [][2]int{{api.Past, api.Inv}, {api.Inv, api.Past}} {
		d = alone(wire("a", of(api.And, api.Expr{Op: ops[0], Kids: kids}, api.Expr{Op: ops[1], Kids: kids})))
		wantFaults(t, "within a Past and outside it", d, 0, api.Fault{Err: api.ErrRound, Item: 1})
	}
	row := []api.Expr{bit(), ref("a"), bit()}
	short, long := api.Expr{Op: api.Inv, Kids: row[:1]}, api.Expr{Op: api.Or, Kids: row[:2]}
	for _, kids := range [][]api.Expr{{short, long}, {long, short}} {
		wantFaults(t, "rows of one beginning", alone(wire("a", of(api.And, kids...))), 0, api.Fault{Err: api.ErrRound, Item: 1})
	}
	endless := []api.Expr{{Op: api.And}, ref("b")}
	endless[0].Kids = endless
	d = alone(wire("a", endless[0]), wire("b", bit()))
	wantFaults(t, "endless", d, 0)
	wantOrder(t, "endless", d, 0, 2, 1)
}

// numbered is a wire of a number, that hangs on others.
func numbered(i int, on ...int) api.Item {
	e := bit()
	for _, k := range on {
		e = of(api.And, e, ref("w"+strconv.Itoa(k)))
	}
	return wire("w"+strconv.Itoa(i), e)
}

// The rule P1: items may be more than calls can be within one another, each hanging on the next one, or the one ahead.
func TestLong(t *testing.T) {
	const n = 200000
	var down, up, ring []api.Item
	for i := range n {
		down = append(down, numbered(i, min(i+1, n)))
		up = append(up, numbered(i+1, i))
		ring = append(ring, numbered(i, (i+1)%n))
	}
	d := alone(append(down, numbered(n))...)
	wantFaults(t, "down", d, 0)
	order, ok := drive.Order(d, 0)
	if !ok || len(order) != n+1 || order[0] != n+1 || order[n] != 1 || !slices.IsSortedFunc(order, func(a, b int) int { return b - a }) {
		t.Errorf("down: %d items, %t", len(order), ok)
	}
	d = alone(append([]api.Item{numbered(0)}, up...)...)
	wantFaults(t, "up", d, 0)
	order, ok = drive.Order(d, 0)
	if !ok || len(order) != n+1 || order[0] != 1 || order[n] != n+1 || !slices.IsSorted(order) {
		t.Errorf("up: %d items, %t", len(order), ok)
	}
	wantFaults(t, "ring", alone(ring...), 0, api.Fault{Err: api.ErrRound, Item: 1})
	wantNoOrder(t, "ring", alone(ring...), 0)
}

// The rule P3: what was told is not changed by what is told later.
func TestAnswersAreNew(t *testing.T) {
	d := top(t, "wire a : 1 = b; wire b : 1 = i;")
	first, _ := drive.Order(d, 1)
	second, _ := drive.Order(d, 1)
	second[0], second[1] = 7, 7
	if third, _ := drive.Order(d, 1); !slices.Equal(first, []int{1, 0}) || !slices.Equal(third, first) {
		t.Errorf("P3: %v, then %v", first, third)
	}
	d = top(t, "wire a : 1 = a; wire b : 1 = b;")
	faults := drive.Check(d, 1)
	again := drive.Check(d, 1)
	again[0], again[1] = api.Fault{}, api.Fault{}
	if last := drive.Check(d, 1); !slices.Equal(faults, []api.Fault{round(0), round(1)}) || !slices.Equal(last, faults) {
		t.Errorf("P3: %v, then %v", faults, last)
	}
}
