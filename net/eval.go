package net

import (
	"proofmark/api"
	"proofmark/vec"
)

// First is what cells are at first.
func First(n api.Net) []int {
	var state []int
	for _, c := range n.Cells {
		state = append(state, c.Reset)
	}
	return state
}

// Eval is what all nodes are. Pins and cells have no places looked up: they are in the order of their nodes.
func Eval(n api.Net, state []int, ins []int) []int {
	made := make([]int, 0, len(n.Nodes))
	pin, cell := 0, 0
	for _, x := range n.Nodes {
		is := 0
		switch x.Op {
		case api.In:
			is = at(ins, pin)
			pin++
		case api.State:
			is = at(state, cell)
			cell++
		default:
			is = vec.Do(x, at(made, x.A), at(made, x.B), at(made, x.C), width(n.Nodes, x.B))
		}
		made = append(made, is)
	}
	return made
}

// After is what cells are next.
func After(n api.Net, state []int, ins []int) []int {
	made := Eval(n, state, ins)
	var next []int
	for _, c := range n.Cells {
		next = append(next, at(made, c.Next))
	}
	return next
}

// at is 0 where there is nothing, so that a net that is not right, or a row that is too short, does no harm.
func at(l []int, i int) int {
	if i < 0 || i >= len(l) {
		return 0
	}
	return l[i]
}
