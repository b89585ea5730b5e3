package elab

import (
	"proofmark/api"
	"proofmark/dims"
	"proofmark/drive"
)

// plan is a design without faults of names, and what is looked up in it over and over.
type plan struct {
	api.Design
	byName map[string]int         // where the module of a name stands
	order  func(module int) []int // a module's wires, instances and drivers, each behind what it hangs on
}

func planOf(d api.Design) plan {
	p := plan{Design: d, byName: map[string]int{}}
	for i, m := range d.Modules {
		p.byName[m.Name] = i
	}
	p.order = kept(func(module int) []int {
		l, _ := drive.Order(d, module)
		return l
	})
	return p
}

// kept asks of each thing once, since instances are many, and their modules few.
func kept[K comparable, V any](ask func(K) V) func(K) V {
	known := map[K]V{}
	return func(k K) V {
		v, ok := known[k]
		if !ok {
			v = ask(k)
			known[k] = v
		}
		return v
	}
}

// place is of which module an instance is, of which numbers of its parameters, and how deep it stands.
type place struct {
	module int
	vals   []int
	deep   int
}

func (p plan) top() place { return place{module: len(p.Modules) - 1, deep: 1} }

// inside is the place of an instance that stands in another one.
func (p plan) inside(at place, it api.Item) place {
	vals, _ := dims.Values(it.Args, p.Modules[at.module].Params, at.vals)
	return place{p.byName[it.Mod], vals, at.deep + 1}
}

// tooBig is what is told wherever there is too much of something.
func (p plan) tooBig() []api.Fault {
	return []api.Fault{{Err: api.ErrBig, Mod: p.top().module, Item: -1}}
}
