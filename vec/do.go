package vec

import "proofmark/api"

// Do is what a node makes of numbers that are as wide as its Op asks, and 0 of an Op that makes nothing. Each of the tables
// by which it goes has at most eight ops: a map that small takes no memory of its own, and Do is asked of each node in each cycle.
func Do(n api.Node, a int, b int, c int, wb int) int {
	if made, ok := reckoned(n, a, b); ok {
		return made
	}
	if yes, ok := told(n, a, b); ok {
		if yes {
			return 1
		}
		return 0
	}
	return placed(n, a, b, c, wb)
}

// reckoned is what an op makes modulo 2^W, if the node's is such a one.
func reckoned(n api.Node, a, b int) (int, bool) {
	ops := map[int]func(a, b int) int{
		api.Inv: func(a, _ int) int { return ^a },
		api.And: func(a, b int) int { return a & b },
		api.Or:  func(a, b int) int { return a | b },
		api.Xor: func(a, b int) int { return a ^ b },
		api.Add: func(a, b int) int { return a + b },
		api.Sub: func(a, b int) int { return a - b },
		api.Mul: func(a, b int) int { return a * b },
	}
	op, ok := ops[n.Op]
	if !ok {
		return 0, false
	}
	return op(a, b) & Mask(n.W), true
}

// told is what an op tells of numbers of Lo bits, if the node's is such a one.
func told(n api.Node, a, b int) (bool, bool) {
	ops := map[int]func(a, b, most int) bool{
		api.RedOr:  func(a, _, _ int) bool { return a != 0 },
		api.RedAnd: func(a, _, most int) bool { return a == most },
		api.Eq:     func(a, b, _ int) bool { return a == b },
		api.Ne:     func(a, b, _ int) bool { return a != b },
		api.Lt:     func(a, b, _ int) bool { return a < b },
		api.Le:     func(a, b, _ int) bool { return a <= b },
	}
	op, ok := ops[n.Op]
	if !ok {
		return false, false
	}
	return op(a, b, Mask(n.Lo)), true
}

// placed is what an op makes of bits that it leaves as they are, and 0 if the node's is no such one.
func placed(n api.Node, a, b, c, wb int) int {
	ops := map[int]func(n api.Node, a, b, c, wb int) int{
		api.Lit: func(n api.Node, _, _, _, _ int) int { return n.N },
		api.Mux: func(_ api.Node, a, b, c, _ int) int {
			if a == 1 {
				return b
			}
			return c
		},
		api.Cat:   func(_ api.Node, a, b, _, wb int) int { return a*count(wb) + b },
		api.Slice: func(n api.Node, a, _, _, _ int) int { return a / count(n.Lo) & Mask(n.W) },
	}
	op, ok := ops[n.Op]
	if !ok {
		return 0
	}
	return op(n, a, b, c, wb)
}
