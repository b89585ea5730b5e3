package net_test

import (
	"math"
	"math/rand"
	"reflect"
	"slices"
	"testing"

	"proofmark/api"
	"proofmark/net"
)

// each calls f with nets that are right, of many sizes and kinds.
func each(t *testing.T, many int, f func(r *rand.Rand, n api.Net)) {
	t.Helper()
	met := map[int]int{}
	for seed := range int64(many) {
		r := rand.New(rand.NewSource(seed))
		n := made(r, r.Intn(60), allOps)
		for _, x := range n.Nodes {
			met[x.Op]++
		}
		if !net.Right(n) || !readRight(n) {
			t.Fatalf("seed %d: Right is %v, the second reading %v, of %+v", seed, net.Right(n), readRight(n), n)
		}
		f(r, n)
		if t.Failed() {
			t.Fatalf("seed %d", seed)
		}
	}
	for _, op := range allOps {
		if met[op] < many/4 {
			t.Errorf("Op %d was met %d times", op, met[op])
		}
	}
}

// P9.1, I2: First, Eval and After are what the second reading says.
func TestMade(t *testing.T) {
	each(t, 400, func(r *rand.Rand, n api.Net) {
		var first []int
		for _, c := range n.Cells {
			first = append(first, c.Reset)
		}
		wantRow(t, "First", net.First(n), first...)
		at := net.First(n)
		for range 6 {
			row := ins(r, n)
			k := look(n, at, row)
			var all, next []int
			for i := range n.Nodes {
				all = append(all, value(k.digits(i)))
			}
			for _, c := range n.Cells {
				next = append(next, all[c.Next])
			}
			wantRow(t, "Eval", net.Eval(n, at, row), all...)
			wantRow(t, "After", net.After(n, at, row), next...)
			at = [][]int{next, state(r, n)}[r.Intn(2)]
		}
	})
}

// P9.2: each node is a number of its width; what comes after a state is a state, and so is the first one.
func TestNumbers(t *testing.T) {
	each(t, 400, func(r *rand.Rand, n api.Net) {
		wantState(t, n, net.First(n))
		for range 5 {
			at, row := state(r, n), ins(r, n)
			l := net.Eval(n, at, row)
			if len(l) != len(n.Nodes) {
				t.Errorf("%d nodes are %v", len(n.Nodes), l)
			}
			for i, x := range l {
				if x < 0 || x > most(n.Nodes[i].W) {
					t.Errorf("node %d, %+v, is %d", i, n.Nodes[i], x)
				}
			}
			wantState(t, n, net.After(n, at, row))
		}
	})
}

func wantState(t *testing.T, n api.Net, l []int) {
	t.Helper()
	if len(l) != len(n.Cells) {
		t.Errorf("%d cells are %v", len(n.Cells), l)
		return
	}
	for i, c := range n.Cells {
		if l[i] < 0 || l[i] > most(n.Nodes[c.Node].W) {
			t.Errorf("cell %d, of node %+v, is %d", i, n.Nodes[c.Node], l[i])
		}
	}
}

// cut is a net of the first nodes alone, and of their pins and cells, each of which is next what it is.
func cut(n api.Net, size int) api.Net {
	short := api.Net{Nodes: n.Nodes[:size]}
	for _, p := range n.Ins {
		if p.Node < size {
			short.Ins = append(short.Ins, p)
		}
	}
	for _, c := range n.Cells {
		if c.Next = c.Node; c.Node < size {
			short.Cells = append(short.Cells, c)
		}
	}
	return short
}

// P9.3: a node hangs on nothing that stands behind it.
func TestNothingBehind(t *testing.T) {
	each(t, 200, func(r *rand.Rand, n api.Net) {
		at, row := state(r, n), ins(r, n)
		all := net.Eval(n, at, row)
		for range 6 {
			size := r.Intn(len(n.Nodes) + 1)
			short := cut(n, size)
			if !net.Right(short) {
				t.Errorf("what is cut off at %d is not right", size)
			}
			wantRow(t, "Eval of the first nodes", net.Eval(short, at[:len(short.Cells)], row[:len(short.Ins)]), all[:size]...)
			wantOthersBehind(t, r, short, at, row, all)
		}
	})
}

// wantOthersBehind puts other nodes behind those that were left.
func wantOthersBehind(t *testing.T, r *rand.Rand, short api.Net, at, row, all []int) {
	t.Helper()
	m := &maker{r: r, n: copied(short)}
	for _, c := range short.Cells {
		m.bits += short.Nodes[c.Node].W
	}
	for range 20 {
		m.add(allOps[r.Intn(len(allOps))])
	}
	for i := range m.n.Cells {
		m.n.Cells[i].Next = m.n.Cells[i].Node
	}
	if !net.Right(m.n) {
		t.Error("others behind are not right")
	}
	at = append(slices.Clone(at[:len(short.Cells)]), state(r, m.n)[len(short.Cells):]...)
	row = append(slices.Clone(row[:len(short.Ins)]), ins(r, m.n)[len(short.Ins):]...)
	size := len(short.Nodes)
	wantRow(t, "Eval, with others behind", net.Eval(m.n, at, row)[:size], all[:size]...)
}

// P9.3: a node hangs on no input, and on no cell, that it does not reach.
func TestNothingOutOfReach(t *testing.T) {
	each(t, 200, func(r *rand.Rand, n api.Net) {
		at, row := state(r, n), ins(r, n)
		all := net.Eval(n, at, row)
		for i := range n.Nodes {
			k := look(n, at, row)
			k.digits(i)
			otherAt, otherRow := state(r, n), ins(r, n)
			for j, c := range n.Cells {
				if k.asked[c.Node] {
					otherAt[j] = at[j]
				}
			}
			for j, p := range n.Ins {
				if k.asked[p.Node] {
					otherRow[j] = row[j]
				}
			}
			if got := net.Eval(n, otherAt, otherRow)[i]; got != all[i] {
				t.Errorf("node %d is %d, and %d of others that it does not reach", i, all[i], got)
			}
		}
	})
}

// P9.3: names, resets, nexts and props tell nothing of what nodes are.
func TestNothingElse(t *testing.T) {
	each(t, 100, func(r *rand.Rand, n api.Net) {
		at, row := state(r, n), ins(r, n)
		other := copied(n)
		other.Props, other.Names = nil, nil
		for i := range other.Ins {
			other.Ins[i].Name = "other"
		}
		for i := range other.Cells {
			c := &other.Cells[i]
			c.Name, c.Reset, c.Next = "", 0, c.Node
		}
		wantRow(t, "Eval", net.Eval(other, at, row), net.Eval(n, at, row)...)
		wantRow(t, "After, where all is kept", net.After(other, at, row), at...)
	})
}

// The rule P3: nothing that is handed in is changed, the same is answered again, and answers share nothing with what was handed in.
func TestNothingIsChanged(t *testing.T) {
	each(t, 100, func(r *rand.Rand, n api.Net) {
		at, row := state(r, n), ins(r, n)
		wasNet, wasAt, wasRow := copied(n), slices.Clone(at), slices.Clone(row)
		first, all, next := net.First(n), net.Eval(n, at, row), net.After(n, at, row)
		kept := [][]int{slices.Clone(first), slices.Clone(all), slices.Clone(next)}
		for _, l := range [][]int{first, all, next} {
			for i := range l {
				l[i] = -7
			}
		}
		net.Right(n)
		net.Same(n, wasNet)
		if !net.Same(n, wasNet) || !slices.Equal(at, wasAt) || !slices.Equal(row, wasRow) {
			t.Error("what was handed in is changed")
		}
		wantRow(t, "First, again", net.First(n), kept[0]...)
		wantRow(t, "Eval, again", net.Eval(n, at, row), kept[1]...)
		wantRow(t, "After, again", net.After(n, at, row), kept[2]...)
	})
}

// numbersOf are all numbers of a net, but for its names.
func numbersOf(n *api.Net) []*int {
	var l []*int
	for i := range n.Nodes {
		x := &n.Nodes[i]
		l = append(l, &x.Op, &x.W, &x.A, &x.B, &x.C, &x.N, &x.Lo)
	}
	for i := range n.Ins {
		l = append(l, &n.Ins[i].Node)
	}
	for i := range n.Cells {
		c := &n.Cells[i]
		l = append(l, &c.Node, &c.Next, &c.Reset)
	}
	for i := range n.Props {
		l = append(l, &n.Props[i].Kind, &n.Props[i].Node)
	}
	for i := range n.Names {
		l = append(l, &n.Names[i].Node)
	}
	return l
}

// P9.1, I1: each number of a small net, one by one, by others: Right is what the second reading says, and Same tells of it.
func TestOneNumberChanged(t *testing.T) {
	right, wrong := 0, 0
	for seed := range int64(60) {
		n := made(rand.New(rand.NewSource(seed)), 25, allOps)
		was := copied(n)
		for _, p := range numbersOf(&n) {
			kept := *p
			for _, other := range []int{kept - 1, kept + 1, kept + 2, 0, 1, 3, 22, 16, 17, -kept, math.MinInt, math.MaxInt} {
				*p = other
				if net.Right(n) != readRight(n) {
					t.Fatalf("seed %d: Right is %v of %+v", seed, net.Right(n), n)
				}
				if net.Same(n, was) != (other == kept) {
					t.Fatalf("seed %d: Same is %v of %d and %d", seed, net.Same(n, was), kept, other)
				}
				if net.Right(n) {
					right++
				} else {
					wrong++
				}
			}
			*p = kept
		}
	}
	if right < 5000 || wrong < 5000 {
		t.Errorf("%d are right, %d wrong", right, wrong)
	}
}

// P9.1, I1: all nodes of small numbers behind a few others.
func TestAllSmallNodes(t *testing.T) {
	ahead := []api.Node{{Op: api.Lit, W: 1}, {Op: api.Lit, W: 2}, {Op: api.Lit, W: 1, N: 1}}
	places := []int{-1, 0, 1, 2, 3}
	right := 0
	for op := range 23 {
		for w := range 5 {
			for i := range 5 * 5 * 5 * 6 * 6 {
				x := api.Node{Op: op, W: w, A: places[i%5], B: places[i/5%5], C: places[i/25%5], N: i/125%6 - 1, Lo: i/750 - 1}
				n := api.Net{Nodes: append(ahead[:3:3], x)}
				if op == api.In {
					n.Ins = []api.Pin{{Node: 3}}
				}
				if op == api.State {
					n.Cells = []api.Cell{{Node: 3, Next: 3}}
				}
				if net.Right(n) != readRight(n) {
					t.Fatalf("Right is %v of %+v", net.Right(n), x)
				}
				if net.Right(n) {
					right++
				}
			}
		}
	}
	if right < 100 {
		t.Errorf("%d are right", right)
	}
}

// LANGUAGE's rule 4: no call panics, whatever it is given: nets, states and rows that are anything.
func TestNothingPanics(t *testing.T) {
	r := rand.New(rand.NewSource(9))
	odd := func() int {
		return []int{math.MinInt, -1, 0, 1, 2, 3, 16, 17, 63, 64, 65, 4000, math.MaxInt, r.Intn(23), r.Intn(23), r.Intn(5)}[r.Intn(16)]
	}
	row := func() []int {
		var l []int
		for range r.Intn(5) {
			l = append(l, odd())
		}
		return l
	}
	ask := func(n api.Net) {
		was := copied(n)
		net.Right(n)
		net.Same(n, api.Net{})
		net.First(n)
		net.Eval(n, row(), row())
		net.After(n, row(), row())
		if !reflect.DeepEqual(was, n) {
			t.Errorf("%+v is changed", was)
		}
	}
	for seed := range int64(3000) {
		n := made(rand.New(rand.NewSource(seed)), r.Intn(12), allOps)
		ask(n)
		l := numbersOf(&n)
		for range 1 + r.Intn(20) {
			if len(l) > 0 {
				*l[r.Intn(len(l))] = odd()
			}
		}
		ask(n)
		for _, p := range l {
			*p = odd()
		}
		ask(n)
	}
}

// BenchmarkEval is of what later layers ask most.
func BenchmarkEval(b *testing.B) {
	r := rand.New(rand.NewSource(1))
	n := made(r, 100, allOps)
	at, row := state(r, n), ins(r, n)
	for b.Loop() {
		net.Eval(n, at, row)
	}
}

func BenchmarkRight(b *testing.B) {
	n := made(rand.New(rand.NewSource(1)), 100, allOps)
	for b.Loop() {
		net.Right(n)
	}
}
