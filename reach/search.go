package reach

import (
	"iter"
	"slices"

	"proofmark/api"
	"proofmark/net"
)

// key is a state, as it is found again; there are never more cells than bits.
type key [mostCells]int

// spot is a state that is reached: in how many steps, from which spot, and by which row. The first one comes from nowhere.
type spot struct {
	state []int
	steps int
	from  int
	row   []int
}

// search is the states that were met, in the order of their least traces: those of fewer steps stand ahead.
type search struct {
	net   api.Net
	spots []spot
	met   map[key]bool
}

// cycle is a legal one of a spot: by which row, and what all nodes are in it.
type cycle struct {
	at   int
	row  []int
	made []int
}

func begin(n api.Net) *search {
	s := &search{net: n, met: map[key]bool{}}
	s.meet(spot{state: net.First(n)})
	return s
}

// meet keeps a spot, unless its state is met already, which then was by a trace that is less.
func (s *search) meet(x spot) {
	var k key
	copy(k[:], x.state)
	if !s.met[k] {
		s.met[k] = true
		s.spots = append(s.spots, x)
	}
}

// cycles tells all legal cycles of all states that are reached, spot by spot, and row by row. What comes after one is met
// once it was told; the spots grow while they are gone through.
func (s *search) cycles() iter.Seq[cycle] {
	return func(yield func(cycle) bool) {
		for at := 0; at < len(s.spots); at++ {
			for row := range rows(s.net) {
				made := net.Eval(s.net, s.spots[at].state, row)
				if !legal(s.net, made) {
					continue
				}
				if !yield(cycle{at, row, made}) {
					return
				}
				s.meet(spot{after(s.net, made), s.spots[at].steps + 1, at, row})
			}
		}
	}
}

// steps is the most that a state takes which was met.
func (s *search) steps() int { return s.spots[len(s.spots)-1].steps }

// violated is the verdict of a property that a cycle is the first to hit.
func (s *search) violated(c cycle) api.Verdict {
	many := s.spots[c.at].steps + 1
	if many > api.MaxCycles {
		return api.Verdict{Kind: api.Undone, K: api.MaxCycles}
	}
	return api.Verdict{Kind: api.Violated, K: many, Trace: s.trace(c)}
}

// trace is the least one whose last cycle that is.
func (s *search) trace(c cycle) [][]int {
	trace := [][]int{c.row}
	for x := s.spots[c.at]; x.steps > 0; x = s.spots[x.from] {
		trace = append(trace, x.row)
	}
	slices.Reverse(trace)
	return trace
}

// after is the state behind a cycle. It is net.After's, which would make all nodes once more.
func after(n api.Net, made []int) []int {
	var state []int
	for _, c := range n.Cells {
		state = append(state, made[c.Next])
	}
	return state
}

// legal: are all assumptions met?
func legal(n api.Net, made []int) bool {
	for _, p := range n.Props {
		if p.Kind == api.Assume && made[p.Node] == 0 {
			return false
		}
	}
	return true
}

// hits: is a property hit, in a cycle that is legal?
func hits(p api.Prop, made []int) bool { return (made[p.Node] == 1) == (p.Kind == api.Cover) }
