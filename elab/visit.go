package elab

import (
	"slices"
	"strconv"

	"proofmark/api"
	"proofmark/drive"
	"proofmark/width"
)

// visitor goes through a design's instances, each ahead of its own ones.
type visitor struct {
	plan
	met    int
	clear  map[string]bool // by their keys, places without faults of their own
	driven func(module int) []api.Fault
}

// faults are those of the first instance that has some.
func (p plan) faults() []api.Fault {
	v := &visitor{plan: p, clear: map[string]bool{}}
	v.driven = kept(func(module int) []api.Fault { return drive.Check(p.Design, module) })
	return v.visit(p.top())
}

func (v *visitor) visit(at place) []api.Fault {
	v.met++
	if v.met > api.MaxNodes || at.deep > api.MaxDeep {
		return v.tooBig()
	}
	if faults := v.own(at); len(faults) > 0 {
		return faults
	}
	for _, it := range v.Modules[at.module].Items {
		if it.Kind != api.Inst {
			continue
		}
		if faults := v.visit(v.inside(at, it)); len(faults) > 0 {
			return faults
		}
	}
	return nil
}

// own are the faults of an instance, but for those within it. Who is the same but for where it stands has the same ones.
func (v *visitor) own(at place) []api.Fault {
	key := keyOf(at)
	if v.clear[key] {
		return nil
	}
	faults := slices.Concat(width.Check(v.Design, at.module, at.vals), v.driven(at.module))
	v.clear[key] = len(faults) == 0
	return faults
}

func keyOf(at place) string {
	key := strconv.Itoa(at.module)
	for _, n := range at.vals {
		key += "," + strconv.Itoa(n)
	}
	return key
}
