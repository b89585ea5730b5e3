package net_test

import (
	"math/rand"
	"testing"

	"proofmark/api"
	"proofmark/net"
)

func wantSame(t *testing.T, a, b api.Net, want bool) {
	t.Helper()
	if net.Same(a, b) != want || net.Same(b, a) != want {
		t.Errorf("Same(%+v, %+v) is %v, and the other way round %v; want %v", a, b, net.Same(a, b), net.Same(b, a), want)
	}
}

// changes are such as leave no two nets alike, one of each field.
var changes = map[string]func(n *api.Net){
	"Op":     func(n *api.Net) { n.Nodes[3].Op++ },
	"W":      func(n *api.Net) { n.Nodes[3].W++ },
	"A":      func(n *api.Net) { n.Nodes[3].A++ },
	"B":      func(n *api.Net) { n.Nodes[3].B-- },
	"C":      func(n *api.Net) { n.Nodes[3].C++ },
	"N":      func(n *api.Net) { n.Nodes[3].N++ },
	"Lo":     func(n *api.Net) { n.Nodes[3].Lo++ },
	"node":   func(n *api.Net) { n.Nodes = n.Nodes[:5] },
	"nodes":  func(n *api.Net) { n.Nodes = append(n.Nodes, api.Node{}) },
	"order":  func(n *api.Net) { n.Nodes[1], n.Nodes[2] = n.Nodes[2], n.Nodes[1] },
	"pin":    func(n *api.Net) { n.Ins[0].Name = "Go" },
	"pin's":  func(n *api.Net) { n.Ins[0].Node++ },
	"no pin": func(n *api.Net) { n.Ins = nil },
	"pins":   func(n *api.Net) { n.Ins = append(n.Ins, api.Pin{}) },
	"cell":   func(n *api.Net) { n.Cells[0].Name = "" },
	"cell's": func(n *api.Net) { n.Cells[0].Node++ },
	"Next":   func(n *api.Net) { n.Cells[0].Next-- },
	"Reset":  func(n *api.Net) { n.Cells[0].Reset = 0 },
	"none":   func(n *api.Net) { n.Cells = nil },
	"cells":  func(n *api.Net) { n.Cells = append(n.Cells, api.Cell{}) },
	"Kind":   func(n *api.Net) { n.Props[0].Kind-- },
	"prop":   func(n *api.Net) { n.Props[0].Name += "x" },
	"prop's": func(n *api.Net) { n.Props[0].Node-- },
	"props":  func(n *api.Net) { n.Props = append(n.Props, n.Props[0]) },
	"no one": func(n *api.Net) { n.Props = nil },
	"name":   func(n *api.Net) { n.Names[1].Name = "n" },
	"name's": func(n *api.Net) { n.Names[1].Node++ },
	"names":  func(n *api.Net) { n.Names = append(n.Names, n.Names[0]) },
	"first":  func(n *api.Net) { n.Names[0], n.Names[1] = n.Names[1], n.Names[0] },
	"nobody": func(n *api.Net) { n.Names = nil },
}

// P9.1, I1: nets that differ in one field alone are not alike.
func TestSameOfChanged(t *testing.T) {
	wantSame(t, counter(), counter(), true)
	for what, change := range changes {
		n := counter()
		change(&n)
		if net.Same(n, counter()) || net.Same(counter(), n) {
			t.Errorf("Same of one whose %s is another is true", what)
		}
		wantSame(t, n, copied(n), true)
	}
}

// P9.1, I1; the rule P3: an empty row may be nil, or not.
func TestSameOfEmpty(t *testing.T) {
	empty := api.Net{Nodes: []api.Node{}, Ins: []api.Pin{}, Cells: []api.Cell{}, Props: []api.Prop{}, Names: []api.Pin{}}
	wantSame(t, api.Net{}, empty, true)
	wantSame(t, api.Net{}, api.Net{}, true)
	if !net.Right(empty) || !net.Right(api.Net{}) {
		t.Error("an empty net is not right")
	}
}

// P9.1, I1: of nets that are not right, as of any.
func TestSameOfWrong(t *testing.T) {
	wrong := api.Net{Nodes: []api.Node{{Op: 99, W: -1, A: 7}}, Cells: []api.Cell{{Node: 5}}, Names: []api.Pin{{Name: "x", Node: -4}}}
	wantSame(t, wrong, copied(wrong), true)
	wantSame(t, wrong, api.Net{}, false)
	other := copied(wrong)
	other.Cells[0].Node = 4
	wantSame(t, wrong, other, false)
}

// P9.1, I1: pins are not names, though both have the same type.
func TestPinsAreNotNames(t *testing.T) {
	l := []api.Pin{{Name: "x"}}
	wantSame(t, api.Net{Ins: l}, api.Net{Names: l}, false)
}

// P9.1, I1: nets that are made alike are alike, and others are not.
func TestSameOfMade(t *testing.T) {
	for seed := range int64(50) {
		n := made(rand.New(rand.NewSource(seed)), 30, allOps)
		wantSame(t, n, made(rand.New(rand.NewSource(seed)), 30, allOps), true)
		wantSame(t, n, made(rand.New(rand.NewSource(seed+1000)), 30, allOps), false)
		wantSame(t, n, copied(n), true)
	}
}
