package reach_test

import (
	"math/rand"
	"slices"
	"testing"

	"proofmark/api"
	"proofmark/net"
	"proofmark/reach"
	"proofmark/sim"
)

// each calls f with small nets that are right, of many kinds.
func each(t *testing.T, many int, f func(r *rand.Rand, n api.Net)) {
	t.Helper()
	for seed := range int64(many) {
		r := rand.New(rand.NewSource(seed))
		n := made(r)
		if !net.Right(n) || !reach.Small(n) {
			t.Fatalf("seed %d: right %t, small %t", seed, net.Right(n), reach.Small(n))
		}
		f(r, n)
		if t.Failed() {
			t.Fatalf("seed %d", seed)
		}
	}
}

// eachProp calls f with each property that can be asked of nets that are made.
func eachProp(t *testing.T, many int, f func(r *rand.Rand, n api.Net, p int, v api.Verdict)) {
	t.Helper()
	each(t, many, func(r *rand.Rand, n api.Net) {
		for p := range n.Props {
			v, err := reach.Tell(n, p)
			switch {
			case (err == api.OK) != (n.Props[p].Kind != api.Assume):
				t.Errorf("Tell of %d of kind %d is %v", p, n.Props[p].Kind, err)
			case err == api.OK:
				f(r, n, p, v)
			case err != api.ErrArg || !alike(v, api.Verdict{}):
				t.Errorf("Tell of %d is %+v, %v", p, v, err)
			}
		}
	})
}

// tally counts verdicts, so that each kind is met.
type tally struct{ first, later, long, never, steps int }

func (c *tally) add(v api.Verdict) {
	switch {
	case v.Kind == api.Violated && v.K == 1:
		c.first++
	case v.Kind == api.Violated && v.K < 5:
		c.later++
	case v.Kind == api.Violated:
		c.long++
	case v.K < 4:
		c.never++
	default:
		c.steps++
	}
}

// P12.1: Tell and Many are what the second reading says.
func TestTellAndMany(t *testing.T) {
	var c tally
	each(t, 800, func(_ *rand.Rand, n api.Net) {
		x := read(n)
		wantMany(t, "a net", n, x.many)
		for p := range n.Props {
			if n.Props[p].Kind == api.Assume {
				wantError(t, "an Assume", n, p, api.ErrArg)
				continue
			}
			want := x.tell(n, p)
			wantVerdict(t, "a net", n, p, want)
			c.add(want)
		}
		wantError(t, "below", n, -1, api.ErrArg)
		wantError(t, "beyond", n, len(n.Props), api.ErrArg)
	})
	if min(c.first, c.later, c.long, c.never, c.steps) < 20 {
		t.Errorf("too few of one kind: %+v", c)
	}
}

// allTraces calls f with all traces of so many cycles, or, if there are some hundreds of them, with a few.
func allTraces(r *rand.Rand, n api.Net, many int, f func(trace [][]int)) {
	all := readRows(n)
	count := 1
	for range many {
		count = min(count*len(all), 600)
	}
	if count == 600 {
		for range 2000 / (many * many) {
			f(trace(r, n, many))
		}
		return
	}
	for i := range count {
		var l [][]int
		for range many {
			l = append(l, all[i%len(all)])
			i /= len(all)
		}
		f(l)
	}
}

// P12.2: what is told violated is hit by its trace at its last cycle, and by no shorter one; nor by one that is less.
func TestTraces(t *testing.T) {
	var c tally
	eachProp(t, 1000, func(r *rand.Rand, n api.Net, p int, v api.Verdict) {
		if v.Kind != api.Violated {
			return
		}
		c.add(v)
		if k, ok := sim.Hit(n, p, v.Trace); !ok || k != v.K-1 || len(v.Trace) != v.K || !sim.Right(n, v.Trace) || len(v.Inv) != 0 {
			t.Errorf("%+v of %d: sim.Hit tells %d, %t", v, p, k, ok)
		}
		allTraces(r, n, v.K-1, func(trace [][]int) {
			if k, ok := sim.Hit(n, p, trace); ok {
				t.Errorf("%v hits %d at %d; told is %+v", trace, p, k, v)
			}
		})
		allTraces(r, n, v.K, func(trace [][]int) {
			if k, ok := sim.Hit(n, p, trace); ok && (k != v.K-1 || less(trace, v.Trace) < 0) {
				t.Errorf("%v hits %d at %d; told is %+v", trace, p, k, v)
			}
		})
	})
	if min(c.first, c.later, c.long) < 30 {
		t.Errorf("too few of one kind: %+v", c)
	}
}

// P12.3: what is told proved is hit by no trace, of whatever length.
func TestNever(t *testing.T) {
	var c tally
	eachProp(t, 400, func(r *rand.Rand, n api.Net, p int, v api.Verdict) {
		if v.Kind != api.Proved {
			return
		}
		c.add(v)
		if len(v.Trace)+len(v.Inv) != 0 {
			t.Errorf("Tell of %d is %+v", p, v)
		}
		for _, many := range []int{0, 1, 2, v.K, v.K + 1, 20} {
			allTraces(r, n, many, func(trace [][]int) {
				if k, ok := sim.Hit(n, p, trace); ok {
					t.Errorf("%v hits %d at %d; told is %+v", trace, p, k, v)
				}
			})
		}
	})
	if min(c.never, c.steps) < 30 {
		t.Errorf("too few of one kind: %+v", c)
	}
}

// opposite is a net of which one property is of the other kind, and its node turned.
func opposite(n api.Net, p int) api.Net {
	b := builder{copied(n)}
	x := &b.Props[p]
	x.Kind = api.Assert + api.Cover - x.Kind
	x.Node = b.inv(n.Props[p].Node)
	return b.Net
}

// P12.4: a cover is what an assert of its opposite is; and an assert what a cover of its is.
func TestOpposites(t *testing.T) {
	covers := 0
	eachProp(t, 600, func(_ *rand.Rand, n api.Net, p int, v api.Verdict) {
		wantVerdict(t, "the opposite", opposite(n, p), p, v)
		if n.Props[p].Kind == api.Cover && v.Kind == api.Violated {
			covers++
		}
	})
	for at := 60; at < 68; at++ {
		n := counter(7, at)
		v, _ := reach.Tell(n, 0)
		wantVerdict(t, "the opposite", opposite(n, 0), 0, v)
	}
	if covers < 50 {
		t.Errorf("%d covers", covers)
	}
}

// barred is a net in which one cycle of a trace is illegal: just that row, in just that state.
func barred(n api.Net, trace [][]int, k int) api.Net {
	b := builder{copied(n)}
	node := b.lit(1, 1)
	for i, p := range n.Ins {
		node = b.of(api.And, node, b.is(p.Node, trace[k][i]))
	}
	for i, c := range n.Cells {
		node = b.of(api.And, node, b.is(c.Node, sim.States(n, trace)[k][i]))
	}
	b.prop(api.Assume, b.inv(node))
	return b.Net
}

// more is a net with one more assumption: that bars a cycle of what was told, if it was violated, or any.
func more(r *rand.Rand, n api.Net, v api.Verdict) api.Net {
	if v.Kind == api.Violated && r.Intn(4) > 0 {
		return barred(n, v.Trace, r.Intn(v.K))
	}
	m := maker{builder: builder{copied(n)}, Rand: r}
	m.prop(api.Assume, m.of(api.Or, m.inv(m.rare()), m.pick(1)))
	return m.Net
}

// P12.4: one more assumption makes nothing shorter: nor does it reach more states, or hit what was never hit.
func TestOneMoreAssumption(t *testing.T) {
	longer, greater, fewer, gone := 0, 0, 0, 0
	eachProp(t, 1000, func(r *rand.Rand, n api.Net, p int, v api.Verdict) {
		harder := more(r, n, v)
		w, err := reach.Tell(harder, p)
		was, _ := reach.Many(n)
		is, _ := reach.Many(harder)
		if err != api.OK || is > was || v.Kind == api.Proved && w.Kind != api.Proved {
			t.Errorf("%+v is %+v, %v, by one more; %d states are %d", v, w, err, was, is)
		}
		if is < was {
			fewer++
		}
		switch {
		case v.Kind != api.Violated:
		case w.Kind == api.Proved:
			gone++
		case w.K < v.K || w.K == v.K && less(w.Trace, v.Trace) < 0:
			t.Errorf("%+v is %+v by one more", v, w)
		case w.K > v.K:
			longer++
		case less(w.Trace, v.Trace) > 0:
			greater++
		}
	})
	if longer < 5 || min(greater, fewer, gone) < 50 {
		t.Errorf("longer %d, greater %d, fewer %d, gone %d", longer, greater, fewer, gone)
	}
}

// P12.4: assumptions that are put one upon another, each of which makes it longer, till it is undone, and then never hit.
func TestLongerAndLonger(t *testing.T) {
	b, by, cell := jumper(7)
	b.prop(api.Cover, b.is(cell, 120))
	for _, c := range []struct {
		most int
		want [][]int
	}{{127, rows(120, 0)}, {100, rows(20, 100, 0)}, {60, rows(60, 60, 0)}, {59, rows(2, 59, 59, 0)}, {2, append(repeated(60, 2), []int{0})}} {
		b.prop(api.Assume, b.tells(api.Le, by, b.lit(7, c.most)))
		wantViolated(t, "longer", b.Net, 0, c.want...)
	}
	b.prop(api.Assume, b.tells(api.Lt, by, b.lit(7, 2)))
	wantUndone(t, "too long", b.Net, 0)
	b.prop(api.Assume, b.inv(b.is(cell, 119)))
	wantProved(t, "never", b.Net, 0, 119)
}

// P12.1: an assumption that always holds, other properties, and names, tell nothing.
func TestWhatTellsNothing(t *testing.T) {
	eachProp(t, 300, func(r *rand.Rand, n api.Net, p int, v api.Verdict) {
		m := maker{builder: builder{copied(n)}, Rand: r}
		m.prop(api.Assume, m.lit(1, 1))
		m.prop(api.Cover, m.pick(1))
		m.prop(api.Assert, m.pick(1))
		for i := range m.Ins {
			m.Ins[i].Name = ""
		}
		for i := range m.Cells {
			m.Cells[i].Name = "same"
		}
		m.Names = []api.Pin{{Name: "n", Node: 0}}
		wantVerdict(t, "more that tells nothing", m.Net, p, v)
		many, _ := reach.Many(n)
		wantMany(t, "more that tells nothing", m.Net, many)
	})
}

// P12.1: states that random traces lead to are as many as Many at most, and, all in all, just as many.
func TestManyIsMet(t *testing.T) {
	all := 0
	each(t, 100, func(r *rand.Rand, n api.Net) {
		met := map[[12]int]bool{}
		for range 60 {
			l := trace(r, n, 12)
			run, states := sim.Run(n, l), sim.States(n, l)
			for k, state := range states {
				var name [12]int
				copy(name[:], state)
				met[name] = true
				if k < len(l) && slices.ContainsFunc(n.Props, func(p api.Prop) bool { return p.Kind == api.Assume && !run[k][slices.Index(n.Props, p)] }) {
					break
				}
			}
		}
		many, err := reach.Many(n)
		if len(met) > many || err != api.OK {
			t.Errorf("%d states were met; Many is %d, %v", len(met), many, err)
		}
		if len(met) == many {
			all++
		}
	})
	if all < 75 {
		t.Errorf("all states were met of %d nets alone", all)
	}
}

// The rule P3: nothing that is handed in is changed, the same is answered again, and answers share nothing.
func TestNothingIsChanged(t *testing.T) {
	rowsMet := 0
	eachProp(t, 300, func(_ *rand.Rand, n api.Net, p int, v api.Verdict) {
		was, kept := copied(n), copiedRows(v.Trace)
		for k := range v.Trace {
			rowsMet += len(v.Trace[k])
			for i := range v.Trace[k] {
				v.Trace[k][i] = -7
			}
			// A row that grows must not grow into another one.
			v.Trace[k] = append(v.Trace[k], -8)
			if !slices.EqualFunc(v.Trace[k+1:], kept[k+1:], slices.Equal[[]int]) {
				t.Errorf("the rows behind %d are %v; they were %v", k, v.Trace[k+1:], kept[k+1:])
			}
		}
		v.Trace = kept
		wantVerdict(t, "again", n, p, v)
		many, _ := reach.Many(n)
		wantMany(t, "again", n, many)
		reach.Small(n)
		if !net.Same(n, was) {
			t.Error("what was handed in is changed")
		}
	})
	if rowsMet < 100 {
		t.Errorf("%d numbers in all", rowsMet)
	}
}

// The rule P1, and beyond it: of nets that are not right nothing is said, but nothing panics, and all ends.
func TestNoPanicOfOtherNets(t *testing.T) {
	ask := func(n api.Net) {
		reach.Small(n)
		reach.Many(n)
		for p := -1; p <= len(n.Props); p++ {
			reach.Tell(n, p)
		}
	}
	each(t, 1500, func(r *rand.Rand, n api.Net) {
		odd := func() int { return []int{-1 << 63, -64, -1, 0, 1, 2, 12, 16, 17, 64, 4000, 1<<63 - 1}[r.Intn(12)] }
		for range 1 + r.Intn(3) {
			x := &n.Nodes[r.Intn(len(n.Nodes))]
			fields := []*int{&x.Op, &x.W, &x.A, &x.B, &x.C, &x.N, &x.Lo}
			if len(n.Ins) > 0 {
				fields = append(fields, &n.Ins[r.Intn(len(n.Ins))].Node)
			}
			if len(n.Cells) > 0 {
				c := &n.Cells[r.Intn(len(n.Cells))]
				fields = append(fields, &c.Node, &c.Next, &c.Reset)
			}
			if len(n.Props) > 0 {
				p := &n.Props[r.Intn(len(n.Props))]
				fields = append(fields, &p.Kind, &p.Node)
			}
			*fields[r.Intn(len(fields))] = odd()
		}
		if r.Intn(4) == 0 {
			n.Nodes = n.Nodes[:r.Intn(len(n.Nodes))]
		}
		ask(n)
	})
	// Cells and pins that have no nodes, or all the same one.
	ask(api.Net{Cells: make([]api.Cell, 300), Ins: make([]api.Pin, 70), Props: []api.Prop{{Kind: api.Cover}}})
	ask(api.Net{Nodes: []api.Node{{Op: api.State, W: 0}}, Cells: make([]api.Cell, 300), Props: []api.Prop{{Kind: api.Cover, Node: 7}, {Kind: api.Assume, Node: -1}}})
}
