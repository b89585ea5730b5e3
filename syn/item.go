package syn

import "proofmark/api"

// rule is how items of a word are read: their kind, and what reads from behind the name up to the `;`.
type rule struct {
	kind int
	rest func(*api.Item)
}

func (p *parser) itemRules() map[string]rule {
	return map[string]rule{
		"wire":   {api.Wire, p.wire},
		"reg":    {api.Reg, p.reg},
		"mem":    {api.Mem, p.mem},
		"inst":   {api.Inst, p.inst},
		"assert": {api.Assert, p.property},
		"assume": {api.Assume, p.property},
		"cover":  {api.Cover, p.property},
		"next":   {api.Next, p.value},
		"out":    {api.Drive, p.value},
		"put":    {api.Put, p.put},
	}
}

func (p *parser) item() api.Item {
	if p.next == len(p.toks) {
		p.giveUp(api.ErrEnd)
	}
	r, ok := p.rules[p.toks[p.next].Text]
	if !ok {
		p.giveUp(api.ErrWord)
	}
	if p.items == api.MaxItems {
		p.giveUp(api.ErrBig)
	}
	p.items++
	p.next++
	it := api.Item{Kind: r.kind, Name: p.name()}
	r.rest(&it)
	p.need(";")
	return it
}

func (p *parser) wire(it *api.Item) {
	p.need(":")
	it.Wid = p.dim()
	p.need("=")
	it.E = p.expr().Expr
}

func (p *parser) reg(it *api.Item) {
	p.need(":")
	it.Wid = p.dim()
	p.need("=")
	it.Val = p.dim()
}

func (p *parser) mem(it *api.Item) {
	p.need("[")
	it.Val = p.dim()
	p.need("]")
	p.need(":")
	it.Wid = p.dim()
}

func (p *parser) inst(it *api.Item) {
	it.Mod = p.name()
	if p.take("<") {
		p.list(api.MaxParams, func() { it.Args = append(it.Args, p.dim()) })
		p.need(">")
	}
	p.need("(")
	if !p.is(")") {
		p.list(api.MaxPorts, func() { it.Binds = append(it.Binds, p.bind()) })
	}
	p.need(")")
}

func (p *parser) bind() api.Bind {
	port := p.name()
	p.need(":")
	return api.Bind{Port: port, E: p.expr().Expr}
}

func (p *parser) property(it *api.Item) {
	p.need(":")
	it.E = p.expr().Expr
}

func (p *parser) value(it *api.Item) {
	p.need("=")
	it.E = p.expr().Expr
}

func (p *parser) put(it *api.Item) {
	p.need("[")
	it.At = p.expr().Expr
	p.need("]")
	p.need("=")
	it.E = p.expr().Expr
	p.need("if")
	it.If = p.expr().Expr
}
