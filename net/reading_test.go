package net_test

import (
	"slices"
	"strconv"
	"strings"

	"proofmark/api"
)

// This is a second reading of chapter 9, and of the table of chapter 8: what a net breaks is told line by line, and numbers
// are told by their digits.

// widthsOf are those of operands and of the node, as the table of chapter 8 has them: w is W, l is Lo, a number is that number.
var widthsOf = map[int]string{
	api.Lit: "", api.In: "", api.State: "",
	api.Inv: "w", api.And: "w w", api.Or: "w w", api.Xor: "w w", api.Add: "w w", api.Sub: "w w", api.Mul: "w w",
	api.RedOr: "l", api.RedAnd: "l", api.Eq: "l l", api.Ne: "l l", api.Lt: "l l", api.Le: "l l",
	api.Mux: "1 w w", api.Cat: "? ?", api.Slice: "?",
}

// readRight is what I1 and 'Types' say.
func readRight(n api.Net) bool {
	if len(n.Nodes) > 4000 || len(n.Ins) > 64 || len(n.Cells) > 256 || len(n.Props) > 16 {
		return false
	}
	for i := range n.Nodes {
		if !readNode(n.Nodes, i) {
			return false
		}
	}
	is := func(i int) bool { return 0 <= i && i < len(n.Nodes) }
	// Each In and each State node has just one that is its own; together with the order this is 'just the In nodes'.
	pins, cells := map[int]int{}, map[int]int{}
	last := -1
	for _, p := range n.Ins {
		if !is(p.Node) || p.Node <= last || n.Nodes[p.Node].Op != api.In {
			return false
		}
		pins[p.Node], last = 1, p.Node
	}
	bits := 0
	last = -1
	for _, c := range n.Cells {
		if !is(c.Node) || c.Node <= last || n.Nodes[c.Node].Op != api.State || !is(c.Next) {
			return false
		}
		w := n.Nodes[c.Node].W
		if n.Nodes[c.Next].W != w || c.Reset < 0 || c.Reset >= 1<<w {
			return false
		}
		cells[c.Node], last = 1, c.Node
		bits += w
	}
	for i, x := range n.Nodes {
		if x.Op == api.In && pins[i] == 0 || x.Op == api.State && cells[i] == 0 {
			return false
		}
	}
	for _, p := range n.Props {
		if p.Kind != api.Assert && p.Kind != api.Assume && p.Kind != api.Cover || !is(p.Node) || n.Nodes[p.Node].W != 1 {
			return false
		}
	}
	for _, p := range n.Names {
		if !is(p.Node) {
			return false
		}
	}
	return bits <= 256
}

func readNode(nodes []api.Node, i int) bool {
	x := nodes[i]
	words, ok := widthsOf[x.Op]
	if !ok || x.W < 1 || x.W > 16 {
		return false
	}
	want := strings.Fields(words)
	var wide []int
	for k, place := range []int{x.A, x.B, x.C} {
		if k >= len(want) {
			if place != 0 {
				return false
			}
			continue
		}
		if place < 0 || place >= i {
			return false
		}
		w := nodes[place].W
		wide = append(wide, w)
		if want[k] == "w" && w != x.W || want[k] == "l" && w != x.Lo || want[k] == "1" && w != 1 {
			return false
		}
	}
	switch {
	case strings.Contains(words, "l"):
		return x.W == 1 && x.N == 0
	case x.Op == api.Lit:
		return x.N >= 0 && x.N < 1<<x.W && x.Lo == 0
	case x.Op == api.Slice:
		return x.N < wide[0] && x.Lo >= 0 && x.Lo <= x.N && x.W == x.N-x.Lo+1
	case x.Op == api.Cat && wide[0]+wide[1] != x.W:
		return false
	}
	return x.N == 0 && x.Lo == 0
}

// looker tells what nodes are, each where it is asked for, and no other.
type looker struct {
	n          api.Net
	state, ins []int
	asked      map[int]bool
}

func look(n api.Net, state, ins []int) looker { return looker{n, state, ins, map[int]bool{}} }

// digits are a node's bits, the highest first.
func (k looker) digits(i int) string {
	k.asked[i] = true
	x := k.n.Nodes[i]
	switch x.Op {
	case api.Lit:
		return digits(x.N, x.W)
	case api.In:
		return digits(k.ins[slices.IndexFunc(k.n.Ins, func(p api.Pin) bool { return p.Node == i })], x.W)
	case api.State:
		return digits(k.state[slices.IndexFunc(k.n.Cells, func(c api.Cell) bool { return c.Node == i })], x.W)
	}
	a := k.digits(x.A)
	switch x.Op {
	case api.Inv:
		return strings.NewReplacer("0", "1", "1", "0").Replace(a)
	case api.RedOr:
		return one(strings.Contains(a, "1"))
	case api.RedAnd:
		return one(!strings.Contains(a, "0"))
	case api.Slice:
		return a[len(a)-1-x.N : len(a)-x.Lo]
	}
	b := k.digits(x.B)
	switch x.Op {
	case api.Eq:
		return one(a == b)
	case api.Ne:
		return one(a != b)
	case api.Lt:
		return one(a < b)
	case api.Le:
		return one(a <= b)
	case api.Mux:
		if c := k.digits(x.C); a == "0" {
			return c
		}
		return b
	case api.Cat:
		return a + b
	}
	return reckon(x, a, b)
}

// reckon is of the ops whose operands are as wide as the node.
func reckon(x api.Node, a, b string) string {
	whole := map[int]func(a, b int) int{
		api.Add: func(a, b int) int { return (a + b) % (1 << x.W) },
		api.Sub: func(a, b int) int { return (1<<x.W + a - b) % (1 << x.W) },
		api.Mul: func(a, b int) int { return a * b % (1 << x.W) },
	}
	if f := whole[x.Op]; f != nil {
		return digits(f(value(a), value(b)), x.W)
	}
	var s strings.Builder
	for i := range a {
		switch pair := a[i : i+1]; x.Op {
		case api.And:
			s.WriteString(one(pair+b[i:i+1] == "11"))
		case api.Or:
			s.WriteString(one(pair+b[i:i+1] != "00"))
		case api.Xor:
			s.WriteString(one(pair != b[i:i+1]))
		}
	}
	return s.String()
}

func digits(n, w int) string {
	s := strconv.FormatInt(int64(n), 2)
	return strings.Repeat("0", w-len(s)) + s
}

func value(s string) int {
	n, err := strconv.ParseInt(s, 2, 64)
	if err != nil {
		panic(err)
	}
	return int(n)
}

func one(yes bool) string {
	if yes {
		return "1"
	}
	return "0"
}
