package syn_test

import (
	"math/rand"
	"strconv"
	"strings"

	"proofmark/api"
)

// maker makes designs, and writes them, by one row of chances.
type maker struct {
	*rand.Rand
	names int
}

func newMaker(seed int64) *maker { return &maker{Rand: rand.New(rand.NewSource(seed))} }

func (r *maker) one(l ...string) string { return l[r.Intn(len(l))] }

// name is another one each time, so that what is kept can be told apart.
func (r *maker) name() string {
	r.names++
	return r.one("a", "b_", "_", "in", "At", "wire") + strconv.Itoa(r.names)
}

func (r *maker) plainDim() api.Dim {
	if r.Intn(2) == 0 {
		return api.Dim{Name: r.name()}
	}
	return api.Dim{N: []int{0, 1, 7, 65535}[r.Intn(4)]}
}

func (r *maker) dim() api.Dim {
	d := r.plainDim()
	if d.Name != "" && r.Intn(2) == 0 {
		d.N = []int{1, 9, 65535}[r.Intn(3)]
	}
	return d
}

var twoKids = []int{api.And, api.Or, api.Xor, api.Add, api.Sub, api.Mul, api.Eq, api.Ne, api.Lt, api.Le, api.Cat}

// expr has at most so many exprs that have Kids.
func (r *maker) expr(most int) api.Expr {
	if most == 0 || r.Intn(5) == 0 {
		return r.leaf()
	}
	left := r.Intn(most)
	switch r.Intn(8) {
	case 0:
		return of([]int{api.Inv, api.RedOr, api.RedAnd, api.Past}[r.Intn(4)], r.expr(most-1))
	case 1:
		hi := r.dim()
		if r.Intn(2) == 0 {
			return slice(r.expr(most-1), hi, hi)
		}
		return slice(r.expr(most-1), hi, r.dim())
	case 2:
		return read(r.name(), r.expr(most-1))
	case 3:
		return of(api.Mux, r.expr(left/2), r.expr(left-left/2), r.expr(most-1-left))
	}
	return of(twoKids[r.Intn(len(twoKids))], r.expr(left), r.expr(most-1-left))
}

func (r *maker) leaf() api.Expr {
	switch r.Intn(4) {
	case 0:
		return lit(r.plainDim(), r.plainDim())
	case 1:
		return ref(r.name() + "." + r.name())
	}
	return ref(r.name())
}

func (r *maker) item() api.Item {
	it := api.Item{Kind: 1 + r.Intn(10), Name: r.name()}
	switch it.Kind {
	case api.Wire:
		it.Wid, it.E = r.dim(), r.expr(5)
	case api.Reg, api.Mem:
		it.Wid, it.Val = r.dim(), r.dim()
	case api.Inst:
		it.Mod = r.name()
		for range r.Intn(5) {
			it.Args = append(it.Args, r.dim())
		}
		for range r.Intn(4) {
			it.Binds = append(it.Binds, api.Bind{Port: r.name(), E: r.expr(3)})
		}
	case api.Put:
		it.At, it.E, it.If = r.expr(3), r.expr(3), r.expr(3)
	default:
		it.E = r.expr(5)
	}
	return it
}

func (r *maker) module(items int) api.Module {
	m := api.Module{Name: r.name()}
	for range r.Intn(5) {
		m.Params = append(m.Params, r.name())
	}
	for range r.Intn(4) {
		m.Ports = append(m.Ports, api.Port{In: r.Intn(2) == 0, Name: r.name(), Wid: r.dim()})
	}
	for range items {
		m.Items = append(m.Items, r.item())
	}
	return m
}

func (r *maker) design(modules, items int) api.Design {
	var d api.Design
	for range modules {
		d.Modules = append(d.Modules, r.module(r.Intn(items+1)))
	}
	return d
}

// writer writes tokens with blanks between; brackets that are not needed stand here and there, if more is not nil.
type writer struct {
	strings.Builder
	more *maker
	made []madeAt
}

// madeAt is how deep an expr is, and where the token that makes it stands.
type madeAt struct{ deep, at int }

func (w *writer) put(l ...string) {
	for _, s := range l {
		w.WriteString(s)
		w.WriteByte(' ')
	}
}

func (w *writer) dim(d api.Dim) {
	switch {
	case d.Name == "":
		w.put(strconv.Itoa(d.N))
	case d.N == 0 && (w.more == nil || w.more.Intn(4) > 0):
		w.put(d.Name)
	default:
		w.put(d.Name, "+", strconv.Itoa(d.N))
	}
}

func levelOf(op int) int {
	switch op {
	case api.Mux:
		return 0
	case api.Or:
		return 1
	case api.Xor:
		return 2
	case api.And:
		return 3
	case api.Eq, api.Ne, api.Lt, api.Le:
		return 4
	case api.Add, api.Sub:
		return 5
	case api.Mul:
		return 6
	case api.Inv:
		return 7
	}
	return 8
}

var signOf = map[int]string{api.And: "&", api.Or: "|", api.Xor: "^", api.Add: "+", api.Sub: "-", api.Mul: "*",
	api.Eq: "==", api.Ne: "!=", api.Lt: "<", api.Le: "<="}

var wordOf = map[int]string{api.RedOr: "any", api.RedAnd: "all", api.Past: "past"}

// expr writes an expr where one of a level may stand, and tells how deep it is.
func (w *writer) expr(e api.Expr, least int) int {
	brackets := levelOf(e.Op) < least
	if w.more != nil && w.more.Intn(8) == 0 {
		brackets = true
	}
	if brackets {
		w.put("(")
		defer w.put(")")
	}
	if len(e.Kids) == 0 {
		w.leaf(e)
		return 0
	}
	at := w.Len()
	deep := 0
	kid := func(i, least int) { deep = max(deep, w.expr(e.Kids[i], least)) }
	switch e.Op {
	case api.Inv:
		w.put("~")
		kid(0, 7)
	case api.RedOr, api.RedAnd, api.Past:
		w.put(wordOf[e.Op], "(")
		kid(0, 0)
		w.put(")")
	case api.Read:
		w.put("at", "(", e.Name, ",")
		kid(0, 0)
		w.put(")")
	case api.Slice:
		kid(0, 8)
		at = w.Len()
		w.bits(e)
	case api.Cat:
		w.put("{")
		kid(0, 0)
		w.put(",")
		kid(1, 0)
		w.put("}")
	case api.Mux:
		kid(0, 1)
		at = w.Len()
		w.put("?")
		kid(1, 0)
		w.put(":")
		kid(2, 0)
	default:
		left, right := levelOf(e.Op), levelOf(e.Op)+1
		if left == 4 {
			left = 5
		}
		kid(0, left)
		at = w.Len()
		w.put(signOf[e.Op])
		kid(1, right)
	}
	w.made = append(w.made, madeAt{deep + 1, at})
	return deep + 1
}

func (w *writer) leaf(e api.Expr) {
	if e.Op == api.Ref {
		w.put(e.Name)
		return
	}
	// Plain: no sum may stand at a side of `'`.
	more := w.more
	w.more = nil
	w.dim(e.Wid)
	w.put("'")
	w.dim(e.Val)
	w.more = more
}

func (w *writer) bits(e api.Expr) {
	w.put("[")
	w.dim(e.Hi)
	if e.Hi != e.Lo || w.more != nil && w.more.Intn(4) == 0 {
		w.put(":")
		w.dim(e.Lo)
	}
	w.put("]")
}

func (w *writer) item(it api.Item) {
	words := []string{"", "wire", "reg", "next", "out", "mem", "put", "inst", "assert", "assume", "cover"}
	w.put(words[it.Kind], it.Name)
	switch it.Kind {
	case api.Wire:
		w.put(":")
		w.dim(it.Wid)
		w.put("=")
		w.expr(it.E, 0)
	case api.Reg:
		w.put(":")
		w.dim(it.Wid)
		w.put("=")
		w.dim(it.Val)
	case api.Mem:
		w.put("[")
		w.dim(it.Val)
		w.put("]", ":")
		w.dim(it.Wid)
	case api.Inst:
		w.inst(it)
	case api.Put:
		w.put("[")
		w.expr(it.At, 0)
		w.put("]", "=")
		w.expr(it.E, 0)
		w.put("if")
		w.expr(it.If, 0)
	case api.Next, api.Drive:
		w.put("=")
		w.expr(it.E, 0)
	default:
		w.put(":")
		w.expr(it.E, 0)
	}
	w.put(";")
}

// list writes n things with commas between.
func (w *writer) list(n int, one func(int)) {
	for i := range n {
		if i > 0 {
			w.put(",")
		}
		one(i)
	}
}

func (w *writer) inst(it api.Item) {
	w.put(it.Mod)
	if len(it.Args) > 0 {
		w.put("<")
		w.list(len(it.Args), func(i int) { w.dim(it.Args[i]) })
		w.put(">")
	}
	w.put("(")
	w.list(len(it.Binds), func(i int) {
		w.put(it.Binds[i].Port, ":")
		w.expr(it.Binds[i].E, 0)
	})
	w.put(")")
}

func (w *writer) head(m api.Module) {
	w.put("module", m.Name)
	if len(m.Params) > 0 {
		w.put("<")
		w.list(len(m.Params), func(i int) { w.put(m.Params[i]) })
		w.put(">")
	}
	w.put("(")
	w.list(len(m.Ports), func(i int) {
		w.put(map[bool]string{true: "in", false: "out"}[m.Ports[i].In], m.Ports[i].Name, ":")
		w.dim(m.Ports[i].Wid)
	})
	w.put(")", "{")
}

func (w *writer) design(d api.Design) string {
	for _, m := range d.Modules {
		w.head(m)
		for _, it := range m.Items {
			w.item(it)
		}
		w.put("}")
	}
	return w.String()
}

// text has no literal with a sum: made designs have none.
func (r *maker) text(d api.Design) string {
	w := writer{more: r}
	return w.design(d)
}
