package elab_test

import (
	"fmt"
	"strings"
	"testing"

	"proofmark/api"
)

func fault(err api.Errno, module, item int) api.Fault {
	return api.Fault{Err: err, Mod: module, Item: item}
}

// J1: faults of names are told alone, of all modules, also of those of which there is no instance.
func TestFaultsOfNames(t *testing.T) {
	wantFaults(t, "", fault(api.ErrNone, 0, -1))
	wantFaults(t, "module t() { wire a : 1 = b; wire c : 2 = 1'1; }", fault(api.ErrNone, 0, 0))
	wantFaults(t, "module t() { wire c : 2 = 1'1; wire a : 1 = b; }", fault(api.ErrNone, 0, 1))
	wantFaults(t, "module u() { wire c : 2 = 1'1; } module t(out o : 1) { inst i u(); wire a : 1 = b; wire a : 1 = 1'1; }",
		fault(api.ErrNone, 1, 1), fault(api.ErrTwice, 1, 2))
	wantFaults(t, "module u() { wire a : 1 = b; } module t() { wire c : 2 = 1'1; }", fault(api.ErrNone, 0, 0))
	wantFaults(t, "module t<n>() { }", fault(api.ErrArg, 0, -1))
	wantFaults(t, "module t() { inst i t(); }", fault(api.ErrLoop, 0, 0))
	wantFaults(t, "module u(in x : 1) { } module t() { inst i u(); }", fault(api.ErrPort, 1, 0))
}

// J1: of an instance faults of widths, and then those of drivers.
func TestFaultsOfOne(t *testing.T) {
	wantFaults(t, "module t(out o : 1, out q : 17) { wire b : 1 = c; wire a : 2 = 1'1; wire c : 1 = b; out o = 2'1; out o = 1'1; }",
		fault(api.ErrRange, 0, -1), fault(api.ErrWidth, 0, 1), fault(api.ErrWidth, 0, 3),
		fault(api.ErrOpen, 0, -1), fault(api.ErrRound, 0, 0), fault(api.ErrMany, 0, 4))
	wantFaults(t, "module t() { wire a : 2 = 1'1; }", fault(api.ErrWidth, 0, 0))
	wantFaults(t, "module t(out o : 1) { }", fault(api.ErrOpen, 0, -1))
	wantFaults(t, "module t() { reg r : 1 = 2; mem m[9] : 1; mem k[0] : 1; }", fault(api.ErrRange, 0, 0), fault(api.ErrRange, 0, 1), fault(api.ErrRange, 0, 2))
}

// J1: faults are those of the first instance that has some, as they are visited.
func TestFaultsOfMany(t *testing.T) {
	// Modules: 0 has a fault of widths, 1 one of drivers, 2 has none, 3 and 4 have such an instance within.
	const modules = `module bad() { wire a : 2 = 1'1; } module open(out o : 1) { } module good() { } module low() { inst i good(); inst k bad(); }
		module low2() { inst i open(); } `
	width, drive := fault(api.ErrWidth, 0, 0), fault(api.ErrOpen, 1, -1)
	for _, x := range []struct {
		items string
		want  []api.Fault
	}{
		{"", nil},
		{"inst a good();", nil},
		{"inst a bad(); inst b open();", []api.Fault{width}},
		{"inst b open(); inst a bad();", []api.Fault{drive}},
		{"inst g good(); inst h good(); inst b open(); inst a bad();", []api.Fault{drive}},
		// All below one of them comes ahead of the next one.
		{"inst a low(); inst b open();", []api.Fault{width}},
		{"inst b low2(); inst a bad();", []api.Fault{drive}},
		{"inst b open(); inst a low();", []api.Fault{drive}},
		{"inst a low(); inst b low2(); inst c bad();", []api.Fault{width}},
		// The outer one comes ahead of what stands in it, also with faults behind it.
		{"inst a bad(); wire w : 3 = 1'1;", []api.Fault{fault(api.ErrWidth, 5, 1)}},
		{"inst a bad(); wire w : 1 = w;", []api.Fault{fault(api.ErrRound, 5, 1)}},
	} {
		wantFaults(t, modules+"module t() { "+x.items+" }", x.want...)
	}
}

// J1: instances are visited as items stand, not as they are made.
func TestVisitsAsItemsStand(t *testing.T) {
	const modules = `module u(in x : 1, out y : 1) { out y = x; wire w : 2 = x; } module v(in x : 1, out y : 1) { out y = x; out y = x; } `
	wantFaults(t, modules+"module t() { inst a u(x : b.y); inst b v(x : 1'1); }", fault(api.ErrWidth, 0, 1))
	wantFaults(t, modules+"module t() { inst a v(x : b.y); inst b u(x : 1'1); }", fault(api.ErrMany, 1, 1))
	// A ring of instances is a fault of who has them.
	wantFaults(t, modules+"module t() { inst a u(x : b.y); inst b u(x : a.y); }", fault(api.ErrRound, 2, 0))
}

// J1: of one module some instances have faults, and others none; each is of its own numbers.
func TestFaultsHangOnParams(t *testing.T) {
	const u = "module u<n, k>(in x : n) { wire a : 3 = x; reg r : 2 = k; } "
	wantFaults(t, u+"module t(in x : 3) { inst a u<3, 3>(x : x); inst b u<3, 0>(x : x); }")
	wantFaults(t, u+"module t(in x : 3) { inst a u<3, 3>(x : x); inst b u<3, 4>(x : x); inst c u<2, 4>(x : x[1:0]); }", fault(api.ErrRange, 0, 1))
	wantFaults(t, u+"module t(in x : 3) { inst a u<3, 3>(x : x); inst c u<2, 4>(x : x[1:0]); inst b u<3, 4>(x : x); }", fault(api.ErrWidth, 0, 0), fault(api.ErrRange, 0, 1))
	wantFaults(t, u+"module t(in x : 3) { inst a u<3, 3>(x : x); inst b u<3, 13>(x : x); inst c u<31, 3>(x : x); }", fault(api.ErrRange, 1, 2))
	// Numbers that look alike, one behind the other, are others still.
	const v = "module v<n, k>() { reg r : 2 = k; reg s : 16 = n; } "
	wantFaults(t, v+"module t() { inst a v<11, 1>(); inst b v<1, 11>(); }", fault(api.ErrRange, 0, 0))
	// A width that is none is told of the port itself, where nobody outside refers to it: here of who binds it.
	wantFaults(t, "module u<n>(in x : n) { } module t() { inst a u<0>(x : 1'1); }", fault(api.ErrRange, 1, 0))
	wantFaults(t, "module u<n>(out y : n) { out y = 1'1; } module t() { inst a u<0>(); }", fault(api.ErrRange, 0, -1), fault(api.ErrRange, 0, 0))
	wantFaults(t, "module v<n>() { } module u<n>() { inst a v<n+1>(); } module t() { inst a u<65534>(); inst b u<65535>(); }", fault(api.ErrRange, 1, 0))
}

// ladder is modules, each within the next one: the first one has these items.
func ladder(deep int, items string) string {
	var b strings.Builder
	for i := range deep {
		fmt.Fprintf(&b, "module m%d() { %s } ", i, items)
		items = fmt.Sprintf("inst i m%d();", i)
	}
	return b.String()
}

// J1: an instance of depth 8 may be, one of 9 is too deep, and nothing else is told of it.
func TestDepth(t *testing.T) {
	const bad = "wire w : 2 = 1'1;"
	for deep := 1; deep <= 8; deep++ {
		wantFits(t, ladder(deep, ""))
		wantFaults(t, ladder(deep, bad), fault(api.ErrWidth, 0, 0))
	}
	n := wantFits(t, ladder(8, "reg r : 1 = 0;"))
	wantText(t, "the name of a register of depth 8", namesOf(n.Names), "i.i.i.i.i.i.i.r")
	for _, deep := range []int{9, 10, 16} {
		wantBig(t, ladder(deep, ""))
		wantBig(t, ladder(deep, bad))
	}
	// What is visited first is told: of the ladder in a top the last one is too deep.
	wantFaults(t, ladder(8, "")+"module bad() { "+bad+" } module t() { inst i m7(); inst b bad(); }", big(9))
	wantFaults(t, ladder(8, "")+"module bad() { "+bad+" } module t() { inst b bad(); inst i m7(); }", fault(api.ErrWidth, 8, 0))
	wantFaults(t, ladder(8, "")+"module t() { inst i m7(); "+bad+" }", fault(api.ErrWidth, 8, 1))
	wantFits(t, ladder(7, "")+"module t() { inst i m6(); inst k m6(); inst l m6(); }")
}
