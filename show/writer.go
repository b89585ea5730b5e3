package show

import (
	"strconv"
	"strings"

	"proofmark/api"
	"proofmark/lex"
	"proofmark/syn"
)

// maxNumber is the greatest number that a text may tell.
const maxNumber = 65535

// writer writes what is right: its methods tell whether all of it was right, and there was room for it. They leave
// off at once where not, so that what is handed in may be far greater than what may be written.
type writer struct {
	out   strings.Builder
	room  int // how many bytes may still be written
	exprs map[int]exprRule
	items map[int]itemRule
}

func newWriter(room int) *writer {
	return &writer{room: room, exprs: exprRules(), items: itemRules()}
}

func (w *writer) say(s string) bool {
	if len(s) > w.room {
		return false
	}
	w.room -= len(s)
	w.out.WriteString(s)
	return true
}

func (w *writer) name(s string) bool { return isName(s) && w.say(s) }

func isName(s string) bool {
	// Where lex refuses s, there are no tokens.
	toks, _, _ := lex.Lex(s)
	return len(toks) == 1 && toks[0].Kind == api.Name && toks[0].Text == s && !syn.Word(s)
}

func (w *writer) dim(d api.Dim) bool {
	if d.N < 0 || d.N > maxNumber {
		return false
	}
	n := strconv.Itoa(d.N)
	if d.Name == "" {
		return w.say(n)
	}
	return w.name(d.Name) && (d.N == 0 || w.say("+") && w.say(n))
}

func (w *writer) plainDim(d api.Dim) bool {
	return (d.Name == "" || d.N == 0) && w.dim(d)
}

// list writes at most so many, with a comma and a blank between any two.
func list[T any](w *writer, l []T, most int, one func(T) bool) bool {
	if len(l) > most {
		return false
	}
	for i, x := range l {
		if i > 0 && !w.say(", ") || !one(x) {
			return false
		}
	}
	return true
}

// angled is a list of params or of arguments, which has no brackets if it is empty.
func angled[T any](w *writer, l []T, one func(T) bool) bool {
	return len(l) == 0 || w.say("<") && list(w, l, api.MaxParams, one) && w.say(">")
}

func (w *writer) design(d api.Design) bool {
	if len(d.Modules) > api.MaxModules {
		return false
	}
	for _, m := range d.Modules {
		if !w.module(m) {
			return false
		}
	}
	return true
}

func (w *writer) module(m api.Module) bool {
	return w.say("module ") && w.name(m.Name) && angled(w, m.Params, w.name) &&
		w.say("(") && list(w, m.Ports, api.MaxPorts, w.port) && w.say(") {\n") &&
		w.body(m.Items) && w.say("}\n")
}

func (w *writer) port(p api.Port) bool {
	word := "out "
	if p.In {
		word = "in "
	}
	return w.say(word) && w.name(p.Name) && w.say(" : ") && w.dim(p.Wid)
}

func (w *writer) body(items []api.Item) bool {
	if len(items) > api.MaxItems {
		return false
	}
	for _, it := range items {
		if !w.item(it) {
			return false
		}
	}
	return true
}

// take is what stands at a place, where nothing is left of it.
func take[T any](place *T) T {
	var none T
	taken := *place
	*place = none
	return taken
}
