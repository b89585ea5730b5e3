package sim_test

import (
	"proofmark/api"
	"proofmark/net"
)

// This is a second reading of chapter 11, in its own words: each cycle is looked at by itself, from the first one on.

// readRight is what 'Types' says of a trace that is right.
func readRight(n api.Net, trace [][]int) bool {
	for _, row := range trace {
		for i, p := range n.Ins {
			if i >= len(row) || row[i] < 0 || row[i] > most(n.Nodes[p.Node].W) {
				return false
			}
		}
		if len(row) > len(n.Ins) {
			return false
		}
	}
	return len(trace) <= 64
}

// readState is the state of cycle k: the first one, or what comes after that of the cycle ahead, by its row.
func readState(n api.Net, trace [][]int, k int) []int {
	if k == 0 {
		return net.First(n)
	}
	return net.After(n, readState(n, trace, k-1), trace[k-1])
}

// reading is a net, and what all its nodes are at each cycle of a trace.
type reading struct {
	api.Net
	at [][]int
}

func read(n api.Net, trace [][]int) reading {
	x := reading{Net: n}
	for k := range trace {
		x.at = append(x.at, net.Eval(n, readState(n, trace, k), trace[k]))
	}
	return x
}

// one: is the node of property p 1 at cycle k?
func (x reading) one(p, k int) bool { return x.at[k][x.Props[p].Node] == 1 }

// held: are all Assumes' nodes 1 at cycle k, and at all ahead?
func (x reading) held(k int) bool {
	for j := range k + 1 {
		for q := range x.Props {
			if x.Props[q].Kind == api.Assume && !x.one(q, j) {
				return false
			}
		}
	}
	return true
}

// hit: is property p hit at cycle k?
func (x reading) hit(p, k int) bool {
	kind := x.Props[p].Kind
	return (kind == api.Assert && !x.one(p, k) || kind == api.Cover && x.one(p, k)) && x.held(k)
}

// first is the first cycle at which property p is hit.
func (x reading) first(p int) (int, bool) {
	for k := range x.at {
		if p >= 0 && p < len(x.Props) && x.hit(p, k) {
			return k, true
		}
	}
	return 0, false
}
