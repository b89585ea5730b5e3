package reach_test

import (
	"fmt"
	"maps"
	"slices"

	"proofmark/api"
	"proofmark/net"
)

// This is a second reading of chapter 12, in its own words. It never leaves out a state that it met: of each number of
// cycles it knows the least trace of just so many legal ones to each state that they lead to.

// way is a state, and the least trace of so many cycles that leads to it.
type way struct {
	state []int
	trace [][]int
}

// less holds traces against each other, row by row.
func less(a, b [][]int) int { return slices.CompareFunc(a, b, slices.Compare[[]int]) }

// readRows are all rows of inputs, in any order.
func readRows(n api.Net) [][]int {
	l := [][]int{{}}
	for _, p := range n.Ins {
		var longer [][]int
		for number := range 1 << n.Nodes[p.Node].W {
			for _, row := range l {
				longer = append(longer, append(slices.Clone(row), number))
			}
		}
		l = longer
	}
	return l
}

func readLegal(n api.Net, state, row []int) bool {
	is := net.Eval(n, state, row)
	for _, p := range n.Props {
		if p.Kind == api.Assume && is[p.Node] != 1 {
			return false
		}
	}
	return true
}

func readHit(n api.Net, p int, state, row []int) bool {
	is := net.Eval(n, state, row)[n.Props[p].Node]
	return readLegal(n, state, row) && (n.Props[p].Kind == api.Assert && is == 0 || n.Props[p].Kind == api.Cover && is == 1)
}

// readFrom are the ways of one cycle more.
func readFrom(n api.Net, ways map[string]way) map[string]way {
	next := map[string]way{}
	for _, w := range ways {
		for _, row := range readRows(n) {
			if !readLegal(n, w.state, row) {
				continue
			}
			state := net.After(n, w.state, row)
			longer := append(slices.Clone(w.trace), row)
			if old, ok := next[fmt.Sprint(state)]; !ok || less(longer, old.trace) < 0 {
				next[fmt.Sprint(state)] = way{state, longer}
			}
		}
	}
	return next
}

// readLeast is the least trace that hits a property at its last cycle, behind one of the ways, and nil if there is none.
func readLeast(n api.Net, p int, ways map[string]way) [][]int {
	var least [][]int
	for _, w := range ways {
		for _, row := range readRows(n) {
			longer := append(slices.Clone(w.trace), row)
			if readHit(n, p, w.state, row) && (least == nil || less(longer, least) < 0) {
				least = longer
			}
		}
	}
	return least
}

// reading is what all states are: how many, in how many steps at most, and which ways lead on for so many cycles.
type reading struct {
	many  int
	steps int
	ways  []map[string]way
}

func read(n api.Net) reading {
	first := net.First(n)
	ways := map[string]way{fmt.Sprint(first): {state: first}}
	met := map[string]bool{}
	x := reading{}
	for grown := true; grown; {
		had := len(met)
		for name := range maps.Keys(ways) {
			met[name] = true
		}
		if grown = len(met) > had; grown {
			x.many, x.steps = len(met), len(x.ways)
			x.ways = append(x.ways, ways)
			ways = readFrom(n, ways)
		}
	}
	return x
}

// tell is the verdict of a property that is an Assert, or a Cover.
func (x reading) tell(n api.Net, p int) api.Verdict {
	for k, ways := range x.ways {
		if trace := readLeast(n, p, ways); trace != nil && k < 64 {
			return api.Verdict{Kind: api.Violated, K: k + 1, Trace: trace}
		} else if trace != nil {
			return api.Verdict{Kind: api.Undone, K: 64}
		}
	}
	return api.Verdict{Kind: api.Proved, K: x.steps}
}
