package sim_test

import (
	"math/rand"
	"slices"
	"testing"

	"proofmark/api"
	"proofmark/net"
	"proofmark/sim"
)

// each calls f with nets and traces that are right, of many sizes.
func each(t *testing.T, many int, f func(r *rand.Rand, n api.Net, trace [][]int)) {
	t.Helper()
	for seed := range int64(many) {
		r := rand.New(rand.NewSource(seed))
		n := made(r)
		l := trace(r, n)
		if !net.Right(n) || !sim.Right(n, l) || !readRight(n, l) {
			t.Fatalf("seed %d: the net, the trace, by the second reading: %t, %t, %t", seed, net.Right(n), sim.Right(n, l), readRight(n, l))
		}
		f(r, n, l)
		if t.Failed() {
			t.Fatalf("seed %d", seed)
		}
	}
}

// P11.1, K1: Right is what the second reading says of traces in which one thing is changed.
func TestRightOfSpoiltTraces(t *testing.T) {
	right, wrong := 0, 0
	each(t, 2000, func(r *rand.Rand, n api.Net, l [][]int) {
		if len(l) == 0 {
			return
		}
		k := r.Intn(len(l))
		switch r.Intn(4) {
		case 0:
			l[k] = append(l[k], 0)
		case 1:
			l[k] = l[k][:len(l[k])/2]
		case 2:
			l = append(l, row(r, n))
		default:
			if len(l[k]) > 0 {
				l[k][r.Intn(len(l[k]))] = []int{-1, 1, 2, 4, 15, 16, 65535, 65536}[r.Intn(8)]
			}
		}
		wantRight(t, n, l, readRight(n, l))
		if readRight(n, l) {
			right++
		} else {
			wrong++
		}
	})
	if right < 300 || wrong < 300 {
		t.Errorf("%d are right, %d wrong", right, wrong)
	}
}

// P11.1, K2: States and Run are what the second reading says; each state is one of the net.
func TestStatesAndRun(t *testing.T) {
	each(t, 1500, func(r *rand.Rand, n api.Net, l [][]int) {
		x := read(n, l)
		var states [][]int
		var run [][]bool
		for k := range len(l) + 1 {
			states = append(states, readState(n, l, k))
		}
		for k := range l {
			var held []bool
			for p := range n.Props {
				held = append(held, x.one(p, k))
			}
			run = append(run, held)
		}
		wantRows(t, "States", sim.States(n, l), states...)
		wantRows(t, "Run", sim.Run(n, l), run...)
	})
}

// tally counts where hits are found, so that each kind is met.
type tally struct{ first, midst, last, never, unheld int }

func (c *tally) add(x reading, p int) {
	k, ok := x.first(p)
	switch {
	case !ok && len(x.at) > 0 && !x.held(len(x.at)-1):
		c.unheld++
	case !ok:
		c.never++
	case k == 0:
		c.first++
	case k == len(x.at)-1:
		c.last++
	default:
		c.midst++
	}
}

// P11.1, K3: Hit is what the second reading says, of all p.
func TestHits(t *testing.T) {
	var c tally
	each(t, 3000, func(r *rand.Rand, n api.Net, l [][]int) {
		x := read(n, l)
		for p := -2; p < len(n.Props)+2; p++ {
			k, ok := sim.Hit(n, p, l)
			if wantK, want := x.first(p); k != wantK || ok != want {
				t.Errorf("Hit of %d tells %d, %t; want %d, %t", p, k, ok, wantK, want)
			}
			if p >= 0 && p < len(n.Props) && n.Props[p].Kind != api.Assume {
				c.add(x, p)
			}
		}
	})
	if min(c.first, c.midst, c.last, c.never, c.unheld) < 50 {
		t.Errorf("too few of one kind: %+v", c)
	}
}

// P11.2: what is so at a cycle hangs on the rows up to it alone: not on how many come behind it, nor on what they are.
func TestParts(t *testing.T) {
	each(t, 800, func(r *rand.Rand, n api.Net, l [][]int) {
		states, run := sim.States(n, l), sim.Run(n, l)
		for _, k := range []int{0, len(l) / 2, r.Intn(len(l) + 1), len(l)} {
			other := copiedRows(l[:k])
			wantRows(t, "States of a part", sim.States(n, other), states[:k+1]...)
			wantRows(t, "Run of a part", sim.Run(n, other), run[:k]...)
			for range r.Intn(5) {
				other = append(other, row(r, n))
			}
			wantRows(t, "States, with other rows behind", sim.States(n, other)[:k+1], states[:k+1]...)
			wantRows(t, "Run, with other rows behind", sim.Run(n, other)[:k], run[:k]...)
			for p := range n.Props {
				at, ok := sim.Hit(n, p, l)
				otherAt, otherOk := sim.Hit(n, p, other)
				if (ok && at < k) != (otherOk && otherAt < k) || ok && at < k && otherAt != at {
					t.Errorf("Hit of %d tells %d, %t; of other rows from %d on %d, %t", p, at, ok, k, otherAt, otherOk)
				}
			}
		}
	})
}

// P11.3: a trace that is cut off behind a hit, at once or later, has the same one; one that is cut off ahead of it has none.
func TestCutOff(t *testing.T) {
	hits := 0
	each(t, 3000, func(r *rand.Rand, n api.Net, l [][]int) {
		for p := range n.Props {
			at, ok := sim.Hit(n, p, l)
			if !ok {
				continue
			}
			if at > 0 {
				hits++
			}
			for _, end := range []int{at + 1, at + 1 + r.Intn(len(l)-at), len(l)} {
				wantHit(t, "cut off behind the hit", n, p, l[:end], at)
			}
			wantNoHit(t, "cut off ahead of the hit", n, p, l[:at])
			wantNoHit(t, "cut off ahead of the hit", n, p, l[:r.Intn(at+1)])
			// What Run tells of the hit's cycle is what the property is there.
			if sim.Run(n, l)[at][p] != (n.Props[p].Kind == api.Cover) {
				t.Errorf("property %d is hit at %d, where it is %t", p, at, sim.Run(n, l)[at][p])
			}
		}
	})
	if hits < 200 {
		t.Errorf("%d hits behind the first cycle", hits)
	}
}

// P11.1: a trace that goes on from a state is one of the net that has it at first.
func TestGoesOn(t *testing.T) {
	each(t, 400, func(r *rand.Rand, n api.Net, l [][]int) {
		states, run := sim.States(n, l), sim.Run(n, l)
		k := r.Intn(len(l) + 1)
		later := copied(n)
		for i := range later.Cells {
			later.Cells[i].Reset = states[k][i]
		}
		wantRows(t, "States from there on", sim.States(later, l[k:]), states[k:]...)
		wantRows(t, "Run from there on", sim.Run(later, l[k:]), run[k:]...)
	})
}

// P11.1: names tell nothing.
func TestNamesTellNothing(t *testing.T) {
	each(t, 200, func(r *rand.Rand, n api.Net, l [][]int) {
		other := copied(n)
		for i := range other.Ins {
			other.Ins[i].Name = ""
		}
		for i := range other.Cells {
			other.Cells[i].Name = "other"
		}
		for i := range other.Props {
			other.Props[i].Name = "q"
		}
		other.Names = []api.Pin{{Name: "n", Node: 0}}
		wantRows(t, "States", sim.States(other, l), sim.States(n, l)...)
		wantRows(t, "Run", sim.Run(other, l), sim.Run(n, l)...)
		for p := range n.Props {
			at, ok := sim.Hit(n, p, l)
			if otherAt, otherOk := sim.Hit(other, p, l); at != otherAt || ok != otherOk {
				t.Errorf("Hit of %d tells %d, %t, and %d, %t of other names", p, at, ok, otherAt, otherOk)
			}
		}
	})
}

// The rule P3: nothing that is handed in is changed, the same is answered again, and answers share nothing with each
// other, nor with what was handed in.
func TestNothingIsChanged(t *testing.T) {
	each(t, 300, func(r *rand.Rand, n api.Net, l [][]int) {
		wasNet, wasRows := copied(n), copiedRows(l)
		states, run := sim.States(n, l), sim.Run(n, l)
		kept, keptRun := copiedRows(states), [][]bool{}
		for _, held := range run {
			keptRun = append(keptRun, slices.Clone(held))
		}
		for k := range states {
			for i := range states[k] {
				states[k][i] = -7
			}
			wantRows(t, "the states behind", states[k+1:], kept[k+1:]...)
		}
		for k := range run {
			for i := range run[k] {
				run[k][i] = !run[k][i]
			}
			wantRows(t, "the cycles behind", run[k+1:], keptRun[k+1:]...)
		}
		sim.Right(n, l)
		for p := range n.Props {
			sim.Hit(n, p, l)
		}
		if !net.Same(n, wasNet) || !alike(l, wasRows) {
			t.Error("what was handed in is changed")
		}
		wantRows(t, "States, again", sim.States(n, l), kept...)
		wantRows(t, "Run, again", sim.Run(n, l), keptRun...)
	})
}
