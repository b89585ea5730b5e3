package syn

import "proofmark/api"

func (p *parser) design() api.Design {
	var d api.Design
	for p.next < len(p.toks) {
		var m api.Module
		f, wrong := caught(func() { m = p.module() })
		if !wrong {
			d.Modules = append(d.Modules, m)
			continue
		}
		last := p.isLast(f)
		p.tell(f)
		if last {
			break
		}
		p.toModule(f)
	}
	return d
}

// toModule goes on behind a fault outside of items.
func (p *parser) toModule(f fault) {
	p.next = f.tok
	if f.err == api.ErrBig {
		// What is too much would be met again, if it is a module itself.
		p.next++
	}
	for p.next < len(p.toks) && !p.is("module") {
		p.next++
	}
}

func (p *parser) module() api.Module {
	if p.is("module") && p.modules == api.MaxModules {
		p.giveUp(api.ErrBig)
	}
	p.need("module")
	p.modules++
	m := api.Module{Name: p.name()}
	if p.take("<") {
		p.list(api.MaxParams, func() { m.Params = append(m.Params, p.name()) })
		p.need(">")
	}
	p.need("(")
	if !p.is(")") {
		p.list(api.MaxPorts, func() { m.Ports = append(m.Ports, p.port()) })
	}
	p.need(")")
	p.need("{")
	m.Items = p.body()
	return m
}

func (p *parser) port() api.Port {
	in := p.take("in")
	if !in {
		p.need("out")
	}
	name := p.name()
	p.need(":")
	return api.Port{In: in, Name: name, Wid: p.dim()}
}

// body is a module's items without a fault, up to its `}`, and that too.
func (p *parser) body() []api.Item {
	var items []api.Item
	p.items = 0
	for !p.take("}") {
		var it api.Item
		f, wrong := caught(func() { it = p.item() })
		if !wrong {
			items = append(items, it)
			continue
		}
		if p.isLast(f) {
			// The module is not through then: it is left with the same fault.
			panic(f)
		}
		p.tell(f)
		p.pastItem(f)
	}
	return items
}

// pastItem goes on behind a fault within an item: from its token on, which may stand far ahead of what was read.
func (p *parser) pastItem(f fault) {
	p.next = f.tok
	for !p.is("}") && !p.take(";") {
		if p.next == len(p.toks) {
			p.giveUp(api.ErrEnd)
		}
		p.next++
	}
}
