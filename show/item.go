package show

import "proofmark/api"

// itemRule is how items of a Kind are written: their word, and what writes from behind the name up to the `;`.
type itemRule struct {
	word string
	rest func(*writtenItem) bool
}

func itemRules() map[int]itemRule {
	return map[int]itemRule{
		api.Wire:   {"wire", (*writtenItem).wire},
		api.Reg:    {"reg", (*writtenItem).reg},
		api.Next:   {"next", (*writtenItem).value},
		api.Drive:  {"out", (*writtenItem).value},
		api.Mem:    {"mem", (*writtenItem).mem},
		api.Put:    {"put", (*writtenItem).put},
		api.Inst:   {"inst", (*writtenItem).inst},
		api.Assert: {"assert", (*writtenItem).property},
		api.Assume: {"assume", (*writtenItem).property},
		api.Cover:  {"cover", (*writtenItem).property},
	}
}

// writtenItem is an item of which a rule takes out what it writes: what is left then must be zero.
type writtenItem struct {
	api.Item
	*writer
}

func (w *writer) item(it api.Item) bool {
	rule, ok := w.items[it.Kind]
	if !ok {
		return false
	}
	x := writtenItem{it, w}
	return w.say("  ") && w.say(rule.word) && w.say(" ") && w.name(it.Name) && rule.rest(&x) && w.say(";\n") &&
		isSpentItem(x.Item)
}

// isSpentItem: is all zero but the Kind and the Name, which every item has?
func isSpentItem(it api.Item) bool {
	none := api.Dim{}
	return it.Wid == none && it.Val == none && it.Mod == "" && len(it.Args) == 0 && len(it.Binds) == 0 &&
		isNoExpr(it.E) && isNoExpr(it.At) && isNoExpr(it.If)
}

func (x *writtenItem) wire() bool {
	return x.say(" : ") && x.dim(take(&x.Wid)) && x.say(" = ") && x.expr(take(&x.E))
}

func (x *writtenItem) reg() bool {
	return x.say(" : ") && x.dim(take(&x.Wid)) && x.say(" = ") && x.dim(take(&x.Val))
}

func (x *writtenItem) mem() bool {
	return x.say("[") && x.dim(take(&x.Val)) && x.say("] : ") && x.dim(take(&x.Wid))
}

func (x *writtenItem) inst() bool {
	return x.say(" ") && x.name(take(&x.Mod)) && angled(x.writer, take(&x.Args), x.dim) &&
		x.say("(") && list(x.writer, take(&x.Binds), api.MaxPorts, x.bind) && x.say(")")
}

func (w *writer) bind(b api.Bind) bool {
	return w.name(b.Port) && w.say(" : ") && w.expr(b.E)
}

func (x *writtenItem) property() bool { return x.say(" : ") && x.expr(take(&x.E)) }

func (x *writtenItem) value() bool { return x.say(" = ") && x.expr(take(&x.E)) }

func (x *writtenItem) put() bool {
	return x.say("[") && x.expr(take(&x.At)) && x.say("] = ") && x.expr(take(&x.E)) &&
		x.say(" if ") && x.expr(take(&x.If))
}
