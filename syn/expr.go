package syn

import "proofmark/api"

// tree is an expr, and how deep it is. It is handed on by pointers: a text may nest some 20000 readers, of which none
// should hold whole exprs.
type tree struct {
	api.Expr
	deep int
}

// operator is a sign between two exprs; one of a higher level binds closer.
type operator struct {
	sign  string
	level int
	op    int
}

// The levels, the loosest first.
const (
	orLevel = iota + 1
	xorLevel
	andLevel
	testLevel
	sumLevel
	termLevel
)

var operators = [...]operator{
	{"|", orLevel, api.Or},
	{"^", xorLevel, api.Xor},
	{"&", andLevel, api.And},
	{"==", testLevel, api.Eq},
	{"!=", testLevel, api.Ne},
	{"<", testLevel, api.Lt},
	{"<=", testLevel, api.Le},
	{"+", sumLevel, api.Add},
	{"-", sumLevel, api.Sub},
	{"*", termLevel, api.Mul},
}

// made is an expr of an Op, and of kids. The token at makes it; where that is too deep, it is the token of the fault.
func made(at int, op int, kids ...*tree) *tree {
	t := &tree{Expr: api.Expr{Op: op}}
	for _, k := range kids {
		t.Kids = append(t.Kids, k.Expr)
		t.deep = max(t.deep, k.deep+1)
	}
	if t.deep > api.MaxDeep {
		panic(fault{api.ErrBig, at})
	}
	return t
}

func (p *parser) expr() *tree {
	which := p.between(orLevel)
	at := p.next
	if !p.take("?") {
		return which
	}
	yes := p.expr()
	p.need(":")
	no := p.expr()
	return made(at, api.Mux, which, yes, no)
}

// nextOperator is the level and the Op of the sign that is next: 0, if that is none between two exprs.
func (p *parser) nextOperator() (level int, op int) {
	for _, o := range operators {
		if p.is(o.sign) {
			return o.level, o.op
		}
	}
	return 0, 0
}

// between reads exprs with operators of at least a level between them. It goes over all levels in one loop, not by
// a call for each, since brackets nest as deep as a text is long.
func (p *parser) between(least int) *tree {
	left := p.unary()
	most := termLevel
	for {
		level, op := p.nextOperator()
		if level < least || level > most {
			return left
		}
		at := p.next
		p.next++
		left = made(at, op, left, p.between(level+1))
		most = level
		if level == testLevel {
			// A test is not tested again without brackets.
			most--
		}
	}
}

func (p *parser) unary() *tree {
	at := p.next
	if p.take("~") {
		return made(at, api.Inv, p.unary())
	}
	return p.post()
}

func (p *parser) post() *tree {
	t := p.primary()
	for at := p.next; p.take("["); at = p.next {
		hi := p.dim()
		lo := hi
		if p.take(":") {
			lo = p.dim()
		}
		p.need("]")
		t = made(at, api.Slice, t)
		t.Hi, t.Lo = hi, lo
	}
	return t
}

func (p *parser) primary() *tree {
	at := p.next
	switch {
	case p.is("("):
		return p.inBrackets()
	case p.take("{"):
		return p.cat(at)
	case p.take("any"):
		return made(at, api.RedOr, p.inBrackets())
	case p.take("all"):
		return made(at, api.RedAnd, p.inBrackets())
	case p.take("past"):
		return made(at, api.Past, p.inBrackets())
	case p.take("at"):
		return p.memoryWord(at)
	}
	return p.leaf()
}

func (p *parser) inBrackets() *tree {
	p.need("(")
	t := p.expr()
	p.need(")")
	return t
}

// cat reads from behind its `{` on, which is the token at.
func (p *parser) cat(at int) *tree {
	upper := p.expr()
	p.need(",")
	lower := p.expr()
	p.need("}")
	return made(at, api.Cat, upper, lower)
}

// memoryWord reads from behind its `at` on, which is the token at.
func (p *parser) memoryWord(at int) *tree {
	p.need("(")
	name := p.name()
	p.need(",")
	place := p.expr()
	p.need(")")
	t := made(at, api.Read, place)
	t.Name = name
	return t
}

func (p *parser) leaf() *tree {
	first := p.side()
	if first.Name == "" || p.is("'") {
		p.need("'")
		return &tree{Expr: api.Expr{Op: api.Lit, Wid: first, Val: p.side()}}
	}
	name := first.Name
	if p.take(".") {
		name += "." + p.name()
	}
	return &tree{Expr: api.Expr{Op: api.Ref, Name: name}}
}
