package elab_test

import (
	"slices"
	"strings"

	"proofmark/api"
)

// What a design does, cycle by cycle, as its modules say it, with no net between: of each thing it is asked what it is at
// a cycle, from what others are at it, or at the one ahead.
type world struct {
	d    api.Design
	rows [][]int // what the top's in-ports are, cycle by cycle
}

type moment struct {
	name  string
	cycle int
}

// scope of an instance: its module, with numbers for its params.
type live struct {
	*world
	m     api.Module
	vals  map[string]int
	outer *live // none of the top
	binds []api.Bind
	inner map[string]*live
	known map[moment]int
}

func (w *world) live(outer *live, m api.Module) *live {
	return &live{world: w, m: m, vals: map[string]int{}, outer: outer, inner: map[string]*live{}, known: map[moment]int{}}
}

func newWorld(d api.Design, rows [][]int) *live {
	w := &world{d, rows}
	return w.live(nil, d.Modules[len(d.Modules)-1])
}

func (l *live) num(d api.Dim) int { return d.N + l.vals[d.Name] }

func (l *live) item(name string, kinds ...int) (api.Item, bool) {
	for _, it := range l.m.Items {
		if it.Name == name && slices.Contains(kinds, it.Kind) {
			return it, true
		}
	}
	return api.Item{}, false
}

func (l *live) port(name string) (api.Port, bool) {
	i := slices.IndexFunc(l.m.Ports, func(p api.Port) bool { return p.Name == name })
	if i < 0 {
		return api.Port{}, false
	}
	return l.m.Ports[i], true
}

// within is the instance of a name that stands here.
func (l *live) within(name string) *live {
	if l.inner[name] == nil {
		it, ok := l.item(name, api.Inst)
		if !ok {
			panic("no instance " + name)
		}
		i := slices.IndexFunc(l.d.Modules, func(m api.Module) bool { return m.Name == it.Mod })
		in := l.world.live(l, l.d.Modules[i])
		in.binds = it.Binds
		for k, name := range in.m.Params {
			in.vals[name] = l.num(it.Args[k])
		}
		l.inner[name] = in
	}
	return l.inner[name]
}

// sized is the width of a thing.
func (l *live) sized(name string) int {
	if inst, rest, ok := strings.Cut(name, "."); ok {
		return l.within(inst).sized(rest)
	}
	if p, ok := l.port(name); ok {
		return l.num(p.Wid)
	}
	it, ok := l.item(name, api.Wire, api.Reg, api.Mem)
	if !ok {
		panic("nothing is named " + name)
	}
	return l.num(it.Wid)
}

// is what a thing of a name, perhaps with a path, is at a cycle.
func (l *live) is(name string, cycle int) int {
	if inst, rest, ok := strings.Cut(name, "."); ok {
		return l.within(inst).is(rest, cycle)
	}
	at := moment{name, cycle}
	if n, ok := l.known[at]; ok {
		return n
	}
	n := l.look(name, cycle)
	l.known[at] = n
	return n
}

func (l *live) look(name string, cycle int) int {
	if mem, rest, ok := strings.Cut(name, "["); ok {
		return l.word(mem, int(rest[0]-'0'), cycle)
	}
	if p, ok := l.port(name); ok && p.In {
		return l.input(name, cycle)
	}
	if it, ok := l.item(name, api.Wire, api.Drive, api.Assert, api.Assume, api.Cover); ok {
		return l.value(it.E, cycle)
	}
	it, ok := l.item(name, api.Reg)
	if !ok {
		panic("nothing is named " + name)
	}
	next, ok := l.item(name, api.Next)
	if cycle == 0 || !ok {
		return l.num(it.Val)
	}
	return l.value(next.E, cycle-1)
}

func (l *live) input(name string, cycle int) int {
	i := 0
	for _, p := range l.m.Ports {
		if p.Name == name {
			break
		}
		if p.In {
			i++
		}
	}
	if l.outer == nil {
		return l.rows[cycle][i]
	}
	i = slices.IndexFunc(l.binds, func(b api.Bind) bool { return b.Port == name })
	return l.outer.value(l.binds[i].E, cycle)
}

// word is what was last put there.
func (l *live) word(mem string, k, cycle int) int {
	if cycle == 0 {
		return 0
	}
	n := l.is(mem+"["+string(rune('0'+k))+"]", cycle-1)
	for _, it := range l.m.Items {
		if it.Kind == api.Put && it.Name == mem && l.value(it.If, cycle-1) == 1 && l.value(it.At, cycle-1) == k {
			n = l.value(it.E, cycle-1)
		}
	}
	return n
}

func (l *live) value(e api.Expr, cycle int) int { return l.sizedValue(e, cycle).n }

type sized struct{ n, w int }

func bit(is bool) sized {
	if is {
		return sized{1, 1}
	}
	return sized{0, 1}
}

func (l *live) sizedValue(e api.Expr, cycle int) sized {
	switch e.Op {
	case api.Lit:
		return sized{l.num(e.Val), l.num(e.Wid)}
	case api.Ref:
		return sized{l.is(e.Name, cycle), l.sized(e.Name)}
	case api.Past:
		return l.past(e, cycle)
	}
	var k []sized
	for _, kid := range e.Kids {
		k = append(k, l.sizedValue(kid, cycle))
	}
	switch e.Op {
	case api.Read:
		it, _ := l.item(e.Name, api.Mem)
		if k[0].n >= l.num(it.Val) {
			return sized{0, l.num(it.Wid)}
		}
		return sized{l.is(e.Name+"["+string(rune('0'+k[0].n))+"]", cycle), l.num(it.Wid)}
	case api.Slice:
		w := l.num(e.Hi) - l.num(e.Lo) + 1
		return sized{k[0].n >> l.num(e.Lo) % (1 << w), w}
	}
	return apply(e.Op, k)
}

func (l *live) past(e api.Expr, cycle int) sized {
	if cycle == 0 {
		return sized{0, l.bits(e.Kids[0])}
	}
	return l.sizedValue(e.Kids[0], cycle-1)
}

// bits is how wide an expression is, of which nobody asks what it is: that may hang on this itself.
func (l *live) bits(e api.Expr) int {
	switch e.Op {
	case api.Lit:
		return l.num(e.Wid)
	case api.Ref, api.Read:
		return l.sized(e.Name)
	case api.Past, api.Inv, api.And, api.Or, api.Xor, api.Add, api.Sub, api.Mul:
		return l.bits(e.Kids[0])
	case api.Mux:
		return l.bits(e.Kids[1])
	case api.Cat:
		return l.bits(e.Kids[0]) + l.bits(e.Kids[1])
	case api.Slice:
		return l.num(e.Hi) - l.num(e.Lo) + 1
	}
	return 1
}

func apply(op int, k []sized) sized {
	a, w := k[0].n, k[0].w
	b := 0
	if len(k) > 1 {
		b = k[1].n
	}
	size := 1 << w
	switch op {
	case api.Inv:
		return sized{size - 1 - a, w}
	case api.RedOr:
		return bit(a > 0)
	case api.RedAnd:
		return bit(a+1 == size)
	case api.And:
		return sized{a & b, w}
	case api.Or:
		return sized{a | b, w}
	case api.Xor:
		return sized{a ^ b, w}
	case api.Add:
		return sized{(a + b) % size, w}
	case api.Sub:
		return sized{(a + size - b) % size, w}
	case api.Mul:
		return sized{a * b % size, w}
	case api.Eq:
		return bit(a == b)
	case api.Ne:
		return bit(a != b)
	case api.Lt:
		return bit(a < b)
	case api.Le:
		return bit(a <= b)
	case api.Cat:
		return sized{a<<k[1].w + b, w + k[1].w}
	case api.Mux:
		return k[2-a]
	}
	panic("no such op")
}
