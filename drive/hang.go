package drive

import (
	"iter"
	"slices"
	"strings"

	"proofmark/api"
)

// finder tells the item that a Ref of a name hangs on, if there is one.
type finder func(name string) (int, bool)

// newFinder goes through the items once, however often it is asked: in a design without faults no name stands twice.
func newFinder(m api.Module) finder {
	wires, insts := map[string]int{}, map[string]int{}
	for i, it := range m.Items {
		switch it.Kind {
		case api.Wire:
			wires[it.Name] = i
		case api.Inst:
			insts[it.Name] = i
		}
	}
	return func(name string) (int, bool) {
		inst, _, dotted := strings.Cut(name, ".")
		if dotted {
			at, ok := insts[inst]
			return at, ok
		}
		at, ok := wires[name]
		return at, ok
	}
}

// row is one of Kids: which one, not what stands in it.
type row struct {
	first *api.Expr
	size  int
}

// refs tells the names that an expression needs in this cycle. What is left of it waits in a list, since it may be deeper
// than calls can be, and each row of Kids is gone through once, since it may stand within itself, or in many places.
func refs(e api.Expr) iter.Seq[string] {
	return func(yield func(string) bool) {
		left, met := []api.Expr{e}, map[row]bool{}
		for len(left) > 0 {
			next := left[len(left)-1]
			left = left[:len(left)-1]
			if next.Op == api.Ref && !yield(next.Name) {
				return
			}
			// What a Past has is of the cycle ahead: it is there already.
			if next.Op == api.Past || len(next.Kids) == 0 {
				continue
			}
			kids := row{&next.Kids[0], len(next.Kids)}
			if !met[kids] {
				met[kids] = true
				left = append(left, next.Kids...)
			}
		}
	}
}

// hangs tells what an expression hangs on, some of it more than once.
func (find finder) hangs(e api.Expr) iter.Seq[int] {
	return func(yield func(int) bool) {
		for name := range refs(e) {
			if at, ok := find(name); ok && !yield(at) {
				return
			}
		}
	}
}

// exprsOf are the expressions by which an item hangs on others.
func exprsOf(it api.Item) []api.Expr {
	switch it.Kind {
	case api.Wire, api.Drive:
		return []api.Expr{it.E}
	case api.Inst:
		var l []api.Expr
		for _, b := range it.Binds {
			l = append(l, b.E)
		}
		return l
	}
	return nil
}

// graph is, of each item, those that it hangs on, each of them once.
type graph [][]int

func graphOf(m api.Module) graph {
	find := newFinder(m)
	g := make(graph, len(m.Items))
	for i, it := range m.Items {
		var on []int
		for _, e := range exprsOf(it) {
			for at := range find.hangs(e) {
				on = append(on, at)
			}
		}
		slices.Sort(on)
		g[i] = slices.Compact(on)
	}
	return g
}

// turned is, of each item, those that hang on it.
func (g graph) turned() graph {
	back := make(graph, len(g))
	for i, on := range g {
		for _, at := range on {
			back[at] = append(back[at], i)
		}
	}
	return back
}
