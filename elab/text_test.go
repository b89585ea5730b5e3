package elab_test

import (
	"fmt"
	"strings"
	"testing"

	"proofmark/api"
)

// opNames are what ops are called in a net's text.
var opNames = map[int]string{
	api.Lit: "Lit", api.Inv: "Inv", api.RedOr: "RedOr", api.RedAnd: "RedAnd", api.And: "And", api.Or: "Or", api.Xor: "Xor",
	api.Add: "Add", api.Sub: "Sub", api.Mul: "Mul", api.Eq: "Eq", api.Ne: "Ne", api.Lt: "Lt", api.Le: "Le", api.Mux: "Mux",
	api.Cat: "Cat", api.Slice: "Slice", api.In: "In", api.State: "State",
}

// nodeText has all that is not 0: the op and the width, operands, the upper bit or the number, the lower bit or the operand's width.
func nodeText(n api.Node) string {
	s := fmt.Sprint(opNames[n.Op], n.W)
	switch n.Op {
	case api.Lit:
		s += fmt.Sprint("=", n.N)
	case api.Inv:
		s += fmt.Sprintf("(%d)", n.A)
	case api.RedOr, api.RedAnd:
		s += fmt.Sprintf("(%d)/%d", n.A, n.Lo)
	case api.Eq, api.Ne, api.Lt, api.Le:
		s += fmt.Sprintf("(%d,%d)/%d", n.A, n.B, n.Lo)
	case api.Mux:
		s += fmt.Sprintf("(%d,%d,%d)", n.A, n.B, n.C)
	case api.Slice:
		s += fmt.Sprintf("(%d)[%d:%d]", n.A, n.N, n.Lo)
	case api.In, api.State:
	default:
		s += fmt.Sprintf("(%d,%d)", n.A, n.B)
	}
	return s
}

func joined[T any](l []T, one func(T) string) string {
	var texts []string
	for _, x := range l {
		texts = append(texts, one(x))
	}
	return strings.Join(texts, " ")
}

func pinText(p api.Pin) string { return fmt.Sprintf("%s@%d", p.Name, p.Node) }

func cellText(c api.Cell) string {
	return fmt.Sprintf("%s@%d>%d=%d", c.Name, c.Node, c.Next, c.Reset)
}

func propText(p api.Prop) string {
	return fmt.Sprintf("%s-%s@%d", map[int]string{api.Assert: "assert", api.Assume: "assume", api.Cover: "cover"}[p.Kind], p.Name, p.Node)
}

// made is what is wanted of a net. Its inputs are the first nodes, and names, and so are not told.
type made struct{ nodes, cells, props, names string }

func wantMade(t *testing.T, text string, want made) {
	t.Helper()
	n := flat(t, text)
	wantText(t, text+": nodes", joined(n.Nodes, nodeText), want.nodes)
	wantText(t, text+": cells", joined(n.Cells, cellText), want.cells)
	wantText(t, text+": properties", joined(n.Props, propText), want.props)
	wantText(t, text+": names", joined(n.Names, pinText), want.names)
}
