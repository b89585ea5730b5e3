package width

import (
	"slices"

	"proofmark/api"
)

// row is one of Kids: which one, not what stands in it.
type row struct {
	first *api.Expr
	size  int
}

func rowOf(e *api.Expr) row {
	if len(e.Kids) == 0 {
		return row{}
	}
	return row{&e.Kids[0], len(e.Kids)}
}

// visit is an expression that is being gone through, and how many of its Kids were.
type visit struct {
	e    *api.Expr
	kids int
}

// walk goes through an expression, Kids first. Those that are open wait in a list, since they may be more than calls can
// be within one another; what a row of Kids has told is kept, since it may stand in many places, or within itself.
type walk struct {
	place
	open   []visit
	widths []int // of those that are through, but whose own expression is open
	told   map[row][]int
}

// expr is an expression's width.
func (p place) expr(e api.Expr) int {
	w := walk{place: p, told: map[row][]int{}}
	w.enter(&e)
	for len(w.open) > 0 {
		at := len(w.open) - 1
		v := w.open[at]
		if v.kids == len(v.e.Kids) {
			w.leave(v.e)
			continue
		}
		w.open[at].kids++
		w.enter(&v.e.Kids[v.kids])
	}
	return w.widths[0]
}

func (w *walk) enter(e *api.Expr) {
	if len(e.Kids) == 0 {
		w.widths = append(w.widths, w.itself(*e, nil))
		return
	}
	told, met := w.told[rowOf(e)]
	switch {
	case !met:
		w.told[rowOf(e)] = nil
		w.open = append(w.open, visit{e, 0})
	case told == nil:
		// It stands within itself: it has no end.
		panic(api.ErrBig)
	default:
		w.widths = append(w.widths, w.itself(*e, told))
	}
}

// leave puts an expression's width where its Kids' were.
func (w *walk) leave(e *api.Expr) {
	first := len(w.widths) - len(e.Kids)
	kids := slices.Clone(w.widths[first:])
	w.told[rowOf(e)] = kids
	w.widths = append(w.widths[:first], w.itself(*e, kids))
	w.open = w.open[:len(w.open)-1]
}

// itself is the width of an expression whose Kids have these.
func (p place) itself(e api.Expr, kids []int) int {
	if len(kids) != kidsTaken(e.Op) {
		panic(api.ErrArg)
	}
	switch e.Op {
	case api.Lit:
		return p.literal(e)
	case api.Ref, api.Read:
		return p.signal(e.Name)
	case api.Inv, api.Past:
		return kids[0]
	case api.RedOr, api.RedAnd:
		return 1
	case api.Mux:
		alike(kids[0], 1)
		alike(kids[1], kids[2])
		return kids[1]
	case api.Cat:
		return joined(kids[0], kids[1])
	case api.Slice:
		return p.slice(e, kids[0])
	case api.Eq, api.Ne, api.Lt, api.Le:
		alike(kids[0], kids[1])
		return 1
	}
	alike(kids[0], kids[1])
	return kids[0]
}

// kidsTaken is below 0 of an Op that is none.
func kidsTaken(op int) int {
	switch op {
	case api.Lit, api.Ref:
		return 0
	case api.Inv, api.RedOr, api.RedAnd, api.Slice, api.Read, api.Past:
		return 1
	case api.And, api.Or, api.Xor, api.Add, api.Sub, api.Mul, api.Eq, api.Ne, api.Lt, api.Le, api.Cat:
		return 2
	case api.Mux:
		return 3
	}
	return -1
}

func (p place) literal(e api.Expr) int {
	w := p.width(e.Wid)
	fits(p.value(e.Val), w)
	return w
}

func joined(upper, lower int) int {
	if upper+lower > api.MaxWidth {
		panic(api.ErrWidth)
	}
	return upper + lower
}

func (p place) slice(e api.Expr, kid int) int {
	hi := p.value(e.Hi)
	lo := p.value(e.Lo)
	if lo > hi || hi >= kid {
		panic(api.ErrWidth)
	}
	return hi - lo + 1
}
