package sim

import (
	"iter"

	"proofmark/api"
	"proofmark/net"
)

// cycles tells each cycle of a trace: its state, and its row of inputs.
func cycles(n api.Net, trace [][]int) iter.Seq2[[]int, []int] {
	return func(yield func([]int, []int) bool) {
		state := net.First(n)
		for _, row := range trace {
			if !yield(state, row) {
				return
			}
			state = net.After(n, state, row)
		}
	}
}

// holds are the properties of a cycle: is the node of each 1?
func holds(n api.Net, state, row []int) []bool {
	made := net.Eval(n, state, row)
	var held []bool
	for _, p := range n.Props {
		held = append(held, stands(n, p.Node) && made[p.Node] == 1)
	}
	return held
}

// rightRow: has a row a number for each pin, and no more?
func rightRow(n api.Net, row []int) bool {
	if len(row) != len(n.Ins) {
		return false
	}
	for i, p := range n.Ins {
		if !fits(n, p, row[i]) {
			return false
		}
	}
	return true
}

// fits: may a pin have that number? W is asked as one that is never below 0, by which shifting would panic.
func fits(n api.Net, p api.Pin, number int) bool {
	return stands(n, p.Node) && number >= 0 && number < 1<<uint(n.Nodes[p.Node].W)
}

// stands: is there such a node? It is asked so that a net that is not right, of which nothing is said, does no harm.
func stands(n api.Net, node int) bool { return node >= 0 && node < len(n.Nodes) }
