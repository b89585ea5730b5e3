package drive_test

import (
	"slices"
	"strings"

	"proofmark/api"
	"proofmark/scope"
)

// A second reading of G1 and G2, in the document's own shape: of each two items it is told whether one hangs on the
// other, and rings and orders are looked for by going over all of them anew.

// exprHangs tells whether an expression hangs on an item.
func exprHangs(e api.Expr, on api.Item) bool {
	if e.Op == api.Past {
		return false
	}
	if e.Op == api.Ref {
		l := strings.SplitN(e.Name, ".", 2)
		return on.Name == l[0] && (on.Kind == api.Wire && len(l) == 1 || on.Kind == api.Inst && len(l) == 2)
	}
	return slices.ContainsFunc(e.Kids, func(kid api.Expr) bool { return exprHangs(kid, on) })
}

// itemHangs tells whether an item hangs on another one.
func itemHangs(it, on api.Item) bool {
	if it.Kind == api.Inst {
		return slices.ContainsFunc(it.Binds, func(b api.Bind) bool { return exprHangs(b.E, on) })
	}
	return (it.Kind == api.Wire || it.Kind == api.Drive) && exprHangs(it.E, on)
}

// readHangs is, of each two items, whether the first hangs on the second.
func readHangs(l []api.Item) [][]bool {
	var hangs [][]bool
	for _, it := range l {
		var row []bool
		for _, on := range l {
			row = append(row, itemHangs(it, on))
		}
		hangs = append(hangs, row)
	}
	return hangs
}

// readLeads is, of each two items, whether the first hangs on the second, or on one that does, and so on.
func readLeads(l []api.Item) [][]bool {
	leads := readHangs(l)
	for mid := range l {
		for a := range l {
			for b := range l {
				leads[a][b] = leads[a][b] || leads[a][mid] && leads[mid][b]
			}
		}
	}
	return leads
}

// readRings are the least item of each ring.
func readRings(l []api.Item) []int {
	var least []int
	leads := readLeads(l)
	for i := range l {
		first := leads[i][i]
		for k := range i {
			first = first && !(leads[i][k] && leads[k][i])
		}
		if first {
			least = append(least, i)
		}
	}
	return least
}

// told tells whether something is told of a module.
func told(d api.Design, module int) bool {
	return module >= 0 && module < len(d.Modules) && len(scope.Check(d)) == 0
}

func readCheck(d api.Design, module int) []api.Fault {
	if !told(d, module) {
		return nil
	}
	var faults []api.Fault
	m := d.Modules[module]
	has := func(l []api.Item, kind int, name string) bool {
		return slices.ContainsFunc(l, func(it api.Item) bool { return it.Kind == kind && it.Name == name })
	}
	for _, p := range m.Ports {
		if !p.In && !has(m.Items, api.Drive, p.Name) && len(faults) == 0 {
			faults = append(faults, api.Fault{Err: api.ErrOpen, Mod: module, Item: -1})
		}
	}
	rings := readRings(m.Items)
	for i, it := range m.Items {
		if (it.Kind == api.Next || it.Kind == api.Drive) && has(m.Items[:i], it.Kind, it.Name) {
			faults = append(faults, api.Fault{Err: api.ErrMany, Mod: module, Item: i})
		}
		if slices.Contains(rings, i) {
			faults = append(faults, api.Fault{Err: api.ErrRound, Mod: module, Item: i})
		}
	}
	return faults
}

// ordered tells whether an item is of a kind that an order has.
func ordered(it api.Item) bool {
	return it.Kind == api.Wire || it.Kind == api.Inst || it.Kind == api.Drive
}

func readOrder(d api.Design, module int) ([]int, bool) {
	if !told(d, module) || len(readRings(d.Modules[module].Items)) > 0 {
		return nil, false
	}
	l := d.Modules[module].Items
	hangs := readHangs(l)
	var order []int
	may := func(i int) bool {
		for on := range l {
			if hangs[i][on] && !slices.Contains(order, on) {
				return false
			}
		}
		return ordered(l[i]) && !slices.Contains(order, i)
	}
	for i := 0; i < len(l); i++ {
		if may(i) {
			order = append(order, i)
			// From the first one on: a lesser one may come now.
			i = -1
		}
	}
	return order, true
}
