package reach

import (
	"iter"
	"slices"

	"proofmark/api"
)

// rows tells all rows of inputs, in order, each in memory of its own; without pins it is one row, that is empty.
func rows(n api.Net) iter.Seq[[]int] {
	return func(yield func([]int) bool) {
		row := make([]int, len(n.Ins))
		for yield(slices.Clone(row)) && step(n, row) {
		}
	}
}

// step makes a row the next one, and tells whether there is one: the last pin goes first, and those behind begin anew.
func step(n api.Net, row []int) bool {
	for i := len(row) - 1; i >= 0; i-- {
		if row[i]+1 < 1<<n.Nodes[n.Ins[i].Node].W {
			row[i]++
			return true
		}
		row[i] = 0
	}
	return false
}
