package elab_test

import (
	"reflect"
	"slices"
	"strings"
	"testing"

	"proofmark/api"
	"proofmark/elab"
	"proofmark/net"
	"proofmark/show"
)

// each calls f with designs that have no faults, and their nets.
func each(t *testing.T, many int, f func(r maker, d api.Design, n api.Net)) {
	t.Helper()
	bigs := 0
	for seed := range int64(many) {
		r := newMaker(seed)
		d := r.design()
		if !show.Right(d) {
			t.Fatalf("seed %d: no design that may be written: %+v", seed, d)
		}
		n, faults := elab.Elab(d)
		if slices.Equal(faults, []api.Fault{big(len(d.Modules) - 1)}) {
			bigs++
			continue
		}
		if len(faults) > 0 {
			t.Fatalf("seed %d: %s has faults %v", seed, show.Text(d), faults)
		}
		f(r, d, n)
		if t.Failed() {
			t.Fatalf("seed %d:\n%s", seed, show.Text(d))
		}
	}
	if bigs > many/4 {
		t.Errorf("of %d designs %d are too big", many, bigs)
	}
}

// P10.1: the net is that of the second reading, which reads J2 to J4 word by word.
func TestMade(t *testing.T) {
	met := map[int]int{}
	each(t, 1500, func(_ maker, d api.Design, n api.Net) {
		want, faults := readElab(d)
		if len(faults) > 0 || !net.Same(n, want) {
			t.Errorf("Elab is\n%+v; want\n%+v", n, want)
		}
		for _, x := range n.Nodes {
			met[x.Op]++
		}
	})
	for op := api.Lit; op <= api.State; op++ {
		if kept := op != api.Ref && op != api.Read && op != api.Past; kept && met[op] < 100 || !kept && met[op] > 0 {
			t.Errorf("Op %d is met %d times", op, met[op])
		}
	}
}

// P10.1, J1: designs that are spoilt are told the faults of the second reading, if they may be written still.
func TestSpoilt(t *testing.T) {
	faults := map[api.Errno]int{}
	for seed := range int64(3000) {
		r := newMaker(seed)
		d, change := r.design(), pick(r, r.spoil, r.bend)
		for range 1 + r.Intn(10) {
			next := copyOf(d)
			change(&next)
			if len(next.Modules) > 0 && show.Right(next) {
				d = next
			}
		}
		n, got := elab.Elab(d)
		wantN, want := readElab(d)
		if !slices.Equal(got, want) || !net.Same(n, wantN) {
			t.Fatalf("seed %d: of\n%s faults are %v; want %v; the net is\n%+v; want\n%+v", seed, show.Text(d), got, want, n, wantN)
		}
		for _, f := range got {
			faults[f.Err]++
		}
		if len(got) == 0 {
			faults[api.OK]++
			wantRight(t, d, n)
		}
	}
	for _, err := range []api.Errno{api.OK, api.ErrArg, api.ErrBig, api.ErrRange, api.ErrNone, api.ErrKind, api.ErrTwice, api.ErrWidth, api.ErrOpen, api.ErrMany, api.ErrRound} {
		if faults[err] < 5 {
			t.Errorf("error %d was told %d times of spoilt designs: %v", err, faults[err], faults)
		}
	}
}

// wantRight looks at P10.2.
func wantRight(t *testing.T, d api.Design, n api.Net) {
	t.Helper()
	if !net.Right(n) {
		t.Errorf("P10.2: not right: %+v", n)
	}
	var ins []string
	for _, p := range d.Modules[len(d.Modules)-1].Ports {
		if p.In {
			ins = append(ins, p.Name)
		}
	}
	wantText(t, "P10.2: the inputs", namesOf(n.Ins), strings.Join(ins, " "))
	for i, p := range n.Ins {
		if n.Nodes[p.Node].Op != api.In || p.Node != i {
			t.Errorf("P10.2: input %d is node %d, %+v", i, p.Node, n.Nodes[p.Node])
		}
	}
	names, cells := map[string]bool{}, map[string]bool{}
	for _, p := range n.Names {
		names[p.Name] = true
	}
	for _, c := range n.Cells {
		cells[c.Name] = true
	}
	if len(names) != len(n.Names) || len(cells) != len(n.Cells) {
		t.Errorf("P10.2: of %d names %d are their own, and of %d cells %d", len(n.Names), len(names), len(n.Cells), len(cells))
	}
}

// P10.2: what is told without a fault is a right net, with the top's inputs, and names of their own.
func TestRight(t *testing.T) {
	each(t, 600, func(_ maker, d api.Design, n api.Net) { wantRight(t, d, n) })
}

// P10.1, P10.3 to P10.5: whatever has a name, and each property, is cycle by cycle what the modules say.
func TestCycles(t *testing.T) {
	met := 0
	each(t, 1000, func(r maker, d api.Design, n api.Net) {
		rows := rowsOf(r.Rand, n, 7)
		w := newWorld(d, rows)
		for cycle, nodes := range run(n, rows) {
			for _, p := range n.Names {
				met++
				if want := w.is(p.Name, cycle); nodes[p.Node] != want {
					t.Errorf("of %v, at cycle %d, %s is %d; want %d", rows, cycle, p.Name, nodes[p.Node], want)
				}
			}
			for _, p := range n.Props {
				if want := w.is(p.Name, cycle); nodes[p.Node] != want {
					t.Errorf("of %v, at cycle %d, property %s is %d; want %d", rows, cycle, p.Name, nodes[p.Node], want)
				}
			}
		}
	})
	if met < 10000 {
		t.Errorf("%d names were met", met)
	}
}

// isStill tells whether a cell is a register's that has no Next.
func isStill(d api.Design, cell string) bool {
	w := newWorld(d, nil)
	for {
		inst, rest, ok := strings.Cut(cell, ".")
		if !ok {
			break
		}
		w, cell = w.within(inst), rest
	}
	_, reg := w.item(cell, api.Reg)
	_, next := w.item(cell, api.Next)
	return reg && !next
}

// P10.3: a register that has no Next is always what it was at first.
func TestStill(t *testing.T) {
	met := 0
	each(t, 300, func(r maker, d api.Design, n api.Net) {
		for _, nodes := range run(n, rowsOf(r.Rand, n, 6)) {
			for _, c := range n.Cells {
				if isStill(d, c.Name) {
					met++
					if nodes[c.Node] != c.Reset {
						t.Errorf("%s is %d, and was %d at first", c.Name, nodes[c.Node], c.Reset)
					}
				}
			}
		}
	})
	if met < 300 {
		t.Errorf("%d registers were met", met)
	}
}

// withPasts is a design whose top has, of each of its wires, one more, that is its past.
func withPasts(d api.Design) (api.Design, []string) {
	d = copyOf(d)
	top := &d.Modules[len(d.Modules)-1]
	var wires []string
	for _, it := range top.Items {
		if it.Kind == api.Wire && len(top.Items) < api.MaxItems {
			wires = append(wires, it.Name)
			past := of(api.Past, api.Expr{Op: api.Ref, Name: it.Name})
			top.Items = append(top.Items, api.Item{Kind: api.Wire, Name: "old" + it.Name, Wid: it.Wid, E: past})
		}
	}
	return d, wires
}

// P10.4: a Past is what its Kid was a cycle ago, and 0 at first.
func TestPast(t *testing.T) {
	met := 0
	each(t, 300, func(r maker, d api.Design, _ api.Net) {
		d, wires := withPasts(d)
		n, faults := elab.Elab(d)
		if len(faults) > 0 {
			// The pasts may be too many.
			return
		}
		all := run(n, rowsOf(r.Rand, n, 6))
		for _, name := range wires {
			node, old := nodeOf(t, n, name), nodeOf(t, n, "old"+name)
			ago := 0
			for cycle, nodes := range all {
				met++
				if nodes[old] != ago {
					t.Errorf("the past of %s is %d at cycle %d; want %d", name, nodes[old], cycle, ago)
				}
				ago = nodes[node]
			}
		}
	})
	if met < 1000 {
		t.Errorf("%d pasts were met", met)
	}
}

// P10.5: a memory's word is what was last put there. All memories of the top have one more Put, of wires that tell it.
func TestWords(t *testing.T) {
	puts := 0
	each(t, 400, func(r maker, d api.Design, _ api.Net) {
		d, mems := withPuts(d)
		n, faults := elab.Elab(d)
		if len(faults) > 0 {
			return
		}
		all := run(n, rowsOf(r.Rand, n, 8))
		for _, it := range mems {
			words := map[int]int{}
			for cycle, nodes := range all {
				for k := range it.Val.N {
					if got := nodes[nodeOf(t, n, it.Name+"["+string(rune('0'+k))+"]")]; got != words[k] {
						t.Errorf("word %d of %s is %d at cycle %d; want %d", k, it.Name, got, cycle, words[k])
					}
				}
				if nodes[nodeOf(t, n, it.Name+"if")] == 1 {
					puts++
					words[nodes[nodeOf(t, n, it.Name+"at")]] = nodes[nodeOf(t, n, it.Name+"e")]
				}
			}
		}
	})
	if puts < 100 {
		t.Errorf("something was put %d times", puts)
	}
}

// withPuts is a design whose top has one Put of each memory, whose At, E and If are wires.
func withPuts(d api.Design) (api.Design, []api.Item) {
	d = copyOf(d)
	top := &d.Modules[len(d.Modules)-1]
	var mems []api.Item
	for _, it := range top.Items {
		if it.Kind == api.Mem {
			mems = append(mems, it)
		}
	}
	for _, mem := range mems {
		i := slices.IndexFunc(top.Items, func(it api.Item) bool { return it.Kind == api.Put && it.Name == mem.Name })
		if i < 0 {
			return d, nil
		}
		put := &top.Items[i]
		at := api.Expr{Op: api.Slice, Hi: api.Dim{N: 1}, Kids: []api.Expr{of(api.Cat, api.Expr{Op: api.Lit, Wid: api.Dim{N: 1}}, put.At)}}
		ref := func(kind string) api.Expr { return api.Expr{Op: api.Ref, Name: mem.Name + kind} }
		wire := func(kind string, w api.Dim, e api.Expr) {
			top.Items = append(top.Items, api.Item{Kind: api.Wire, Name: mem.Name + kind, Wid: w, E: e})
		}
		wire("e", mem.Wid, put.E)
		wire("if", api.Dim{N: 1}, put.If)
		wire("at", api.Dim{N: 2}, at)
		put = &top.Items[i]
		put.At, put.E, put.If = ref("at"), ref("e"), ref("if")
		one := *put
		top.Items = slices.DeleteFunc(top.Items, func(it api.Item) bool { return it.Kind == api.Put && it.Name == mem.Name })
		top.Items = append(top.Items, one)
	}
	return d, mems
}

// around is a design with one more module, that has the top within it, with the same ports.
func around(r maker, d api.Design) api.Design {
	d = copyOf(d)
	top := d.Modules[len(d.Modules)-1]
	m := api.Module{Name: "around", Ports: slices.Clone(top.Ports)}
	in := api.Item{Kind: api.Inst, Name: "within", Mod: top.Name}
	for _, p := range top.Ports {
		if p.In {
			in.Binds = append(in.Binds, api.Bind{Port: p.Name, E: api.Expr{Op: api.Ref, Name: p.Name}})
		} else {
			m.Items = append(m.Items, api.Item{Kind: api.Drive, Name: p.Name, E: api.Expr{Op: api.Ref, Name: "within." + p.Name}})
		}
	}
	r.Shuffle(len(in.Binds), func(i, k int) { in.Binds[i], in.Binds[k] = in.Binds[k], in.Binds[i] })
	m.Items = append(m.Items, in)
	r.shuffle(m.Items)
	d.Modules = append(d.Modules, m)
	return d
}

// P10.6: a top module within another one, that has the same ports, and binds them, goes as it went.
func TestWithin(t *testing.T) {
	each(t, 300, func(r maker, d api.Design, n api.Net) {
		outer, faults := elab.Elab(around(r, d))
		if len(faults) > 0 {
			t.Fatalf("within another one: %v", faults)
		}
		rows := rowsOf(r.Rand, n, 6)
		was, is := run(n, rows), run(outer, rows)
		same := func(what string, a, b int) {
			for cycle := range rows {
				if was[cycle][a] != is[cycle][b] {
					t.Errorf("%s was %d at cycle %d, and is %d within another one", what, was[cycle][a], cycle, is[cycle][b])
				}
			}
		}
		for _, p := range n.Names {
			same(p.Name, p.Node, nodeOf(t, outer, "within."+p.Name))
		}
		for _, p := range d.Modules[len(d.Modules)-1].Ports {
			same(p.Name, nodeOf(t, n, p.Name), nodeOf(t, outer, p.Name))
		}
		for i, p := range n.Props {
			q := outer.Props[i]
			same(p.Name, p.Node, q.Node)
			wantText(t, "the property within", q.Name, "within."+p.Name)
			if q.Kind != p.Kind {
				t.Errorf("%s was of kind %d, and is of %d", p.Name, p.Kind, q.Kind)
			}
		}
		if len(outer.Cells) != len(n.Cells) || len(outer.Props) != len(n.Props) || len(outer.Ins) != len(n.Ins) {
			t.Errorf("cells, properties or inputs are not as many: %+v", outer)
		}
	})
}

// moved is a design whose items stand elsewhere, but for Puts, of which the last one counts.
func moved(r maker, d api.Design) api.Design {
	d = copyOf(d)
	for i := range d.Modules {
		items := d.Modules[i].Items
		isPut := func(it api.Item) bool { return it.Kind == api.Put }
		var puts []api.Item
		for _, it := range items {
			if isPut(it) {
				puts = append(puts, it)
			}
		}
		r.shuffle(items)
		for k := range items {
			if isPut(items[k]) {
				items[k], puts = puts[0], puts[1:]
			}
		}
	}
	return d
}

// T2: a flat design does what its modules say, whatever the order of their items.
func TestMoved(t *testing.T) {
	each(t, 200, func(r maker, d api.Design, n api.Net) {
		other, faults := elab.Elab(moved(r, d))
		if len(faults) > 0 || len(other.Nodes) != len(n.Nodes) {
			t.Fatalf("moved: %v; %d nodes; want %d", faults, len(other.Nodes), len(n.Nodes))
		}
		rows := rowsOf(r.Rand, n, 6)
		was, is := run(n, rows), run(other, rows)
		for _, p := range n.Names {
			node := nodeOf(t, other, p.Name)
			for cycle := range rows {
				if was[cycle][p.Node] != is[cycle][node] {
					t.Errorf("%s was %d at cycle %d, and is %d in another order", p.Name, was[cycle][p.Node], cycle, is[cycle][node])
				}
			}
		}
	})
}

// The rule P3: nothing that is handed in is changed, and the same is told again, though what was told is changed.
func TestNothingIsChanged(t *testing.T) {
	for seed := range int64(150) {
		r := newMaker(seed)
		d := r.design()
		for range r.Intn(4) {
			r.spoil(&d)
		}
		kept := copyOf(d)
		n, faults := elab.Elab(d)
		wasN, wasFaults := copied(reflect.ValueOf(n)).Interface().(api.Net), slices.Clone(faults)
		for i := range faults {
			faults[i] = api.Fault{At: 7}
		}
		for _, l := range [][]api.Pin{n.Ins, n.Names} {
			for i := range l {
				l[i] = api.Pin{Name: "no", Node: -7}
			}
		}
		clear(n.Nodes)
		clear(n.Cells)
		clear(n.Props)
		if !reflect.DeepEqual(copyOf(d), kept) {
			t.Fatalf("seed %d: %+v is changed to %+v", seed, kept, d)
		}
		if again, l := elab.Elab(d); !net.Same(again, wasN) || !slices.Equal(l, wasFaults) {
			t.Fatalf("seed %d: of %+v is told %+v, %v, and then %+v, %v", seed, d, wasN, wasFaults, again, l)
		}
	}
}
