package width

import "proofmark/api"

// ports leaves with the first port that has no width.
func (p place) ports() {
	for _, port := range p.module.Ports {
		p.width(port.Wid)
	}
}

// item leaves with what is wrong first with an item.
func (p place) item(it api.Item) {
	switch it.Kind {
	case api.Wire:
		p.meets(p.width(it.Wid), it.E)
	case api.Reg:
		w := p.width(it.Wid)
		fits(p.value(it.Val), w)
	case api.Mem:
		p.width(it.Wid)
		p.words(it.Val)
	case api.Next, api.Drive:
		p.meets(p.signal(it.Name), it.E)
	case api.Put:
		p.put(it)
	case api.Inst:
		p.binds(it)
	case api.Assert, api.Assume, api.Cover:
		p.meets(1, it.E)
	default:
		panic(api.ErrKind)
	}
}

// meets leaves unless an expression is so wide.
func (p place) meets(w int, e api.Expr) { alike(w, p.expr(e)) }

func (p place) words(d api.Dim) {
	if n := p.value(d); n < 1 || n > api.MaxWords {
		panic(api.ErrRange)
	}
}

// put asks for all widths ahead of holding any against another, since what one of them lacks is told first.
func (p place) put(it api.Item) {
	w := p.signal(it.Name)
	p.expr(it.At)
	e := p.expr(it.E)
	cond := p.expr(it.If)
	alike(w, e)
	alike(cond, 1)
}

func (p place) binds(it api.Item) {
	within := p.instance(it)
	for _, b := range it.Binds {
		p.meets(within.port(b.Port), b.E)
	}
}
