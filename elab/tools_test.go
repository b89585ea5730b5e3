package elab_test

import (
	"math/rand"
	"slices"
	"strings"
	"testing"

	"proofmark/api"
	"proofmark/elab"
	"proofmark/net"
	"proofmark/syn"
)

func parsed(t *testing.T, text string) api.Design {
	t.Helper()
	d, faults := syn.Parse(text)
	if len(faults) > 0 {
		t.Fatalf("%s is no design: %v", short(text), faults)
	}
	return d
}

// flat is the net of a text's design, which has no faults.
func flat(t *testing.T, text string) api.Net {
	t.Helper()
	n, faults := elab.Elab(parsed(t, text))
	if len(faults) > 0 || !net.Right(n) {
		t.Fatalf("%s has faults %v, or its net is not right: %+v", text, faults, n)
	}
	return n
}

func wantNet(t *testing.T, text string, want api.Net) {
	t.Helper()
	if n := flat(t, text); !net.Same(n, want) {
		t.Errorf("%s is\n%+v; want\n%+v", text, n, want)
	}
}

// wantFaults looks also at the rule P2: beside faults the net is zero.
func wantFaults(t *testing.T, text string, want ...api.Fault) {
	t.Helper()
	n, faults := elab.Elab(parsed(t, text))
	if !slices.Equal(faults, want) {
		t.Errorf("%s has faults %v; want %v", short(text), faults, want)
	}
	if len(faults) > 0 && !net.Same(n, api.Net{}) {
		t.Errorf("%s has faults %v, and a net: %+v", short(text), faults, n)
	}
}

func short(text string) string { return text[:min(len(text), 300)] }

// wantFits is of a design that is as big as may be, and its net right.
func wantFits(t *testing.T, text string) api.Net {
	t.Helper()
	n, faults := elab.Elab(parsed(t, text))
	if len(faults) > 0 || !net.Right(n) {
		t.Errorf("%s has faults %v; its net is right: %t", short(text), faults, net.Right(n))
	}
	return n
}

func big(module int) api.Fault { return api.Fault{Err: api.ErrBig, Mod: module, Item: -1} }

func wantBig(t *testing.T, text string) {
	t.Helper()
	wantFaults(t, text, big(strings.Count(text, "module ")-1))
}

// namesOf are pins, as their names alone.
func namesOf(l []api.Pin) string {
	var names []string
	for _, p := range l {
		names = append(names, p.Name)
	}
	return strings.Join(names, " ")
}

// cellsOf are cells, as their names alone.
func cellsOf(n api.Net) string {
	var names []string
	for _, c := range n.Cells {
		names = append(names, c.Name)
	}
	return strings.Join(names, " ")
}

func propsOf(n api.Net) string {
	var names []string
	for _, p := range n.Props {
		names = append(names, p.Name)
	}
	return strings.Join(names, " ")
}

func wantText(t *testing.T, what, got, want string) {
	t.Helper()
	if got != want {
		t.Errorf("%s: %s; want %s", what, got, want)
	}
}

func nodeOf(t *testing.T, n api.Net, name string) int {
	t.Helper()
	i := slices.IndexFunc(n.Names, func(p api.Pin) bool { return p.Name == name })
	if i < 0 {
		t.Fatalf("nothing of %s is named %s", namesOf(n.Names), name)
	}
	return n.Names[i].Node
}

// run is what all nodes are, cycle by cycle, of rows of inputs.
func run(n api.Net, rows [][]int) [][]int {
	var all [][]int
	state := net.First(n)
	for _, row := range rows {
		all = append(all, net.Eval(n, state, row))
		state = net.After(n, state, row)
	}
	return all
}

// wantRun looks at what a name is, cycle by cycle.
func wantRun(t *testing.T, text, name string, rows [][]int, want ...int) {
	t.Helper()
	n := flat(t, text)
	node := nodeOf(t, n, name)
	var got []int
	for _, nodes := range run(n, rows) {
		got = append(got, nodes[node])
	}
	if !slices.Equal(got, want) {
		t.Errorf("%s: of %v %s is %v; want %v", text, rows, name, got, want)
	}
}

// idle are rows of a design without inputs.
func idle(cycles int) [][]int { return make([][]int, cycles) }

// rowsOf are some cycles' inputs at random.
func rowsOf(r *rand.Rand, n api.Net, cycles int) [][]int {
	rows := make([][]int, cycles)
	for i := range rows {
		for _, p := range n.Ins {
			most := 1<<n.Nodes[p.Node].W - 1
			rows[i] = append(rows[i], []int{0, 1, most, r.Intn(most + 1), r.Intn(most + 1)}[r.Intn(5)])
		}
	}
	return rows
}
