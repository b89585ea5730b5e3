package syn

import "proofmark/api"

// maxFaults is how many faults are told of one text.
const maxFaults = 20

// fault is what a reader panics with to give up: what is wrong, and at which token; the end counts as one more.
type fault struct {
	err api.Errno
	tok int
}

type parser struct {
	toks    []api.Tok
	size    int // bytes of the text: the place of its end
	next    int // which token is read next
	modules int // begun so far
	items   int // begun so far of the module at hand
	rules   map[string]rule
	faults  []api.Fault
}

func newParser(toks []api.Tok, size int) *parser {
	p := &parser{toks: toks, size: size}
	p.rules = p.itemRules()
	return p
}

// caught is the fault at which read gave up, and whether it did.
func caught(read func()) (f fault, gaveUp bool) {
	defer func() {
		switch r := recover().(type) {
		case nil:
		case fault:
			f, gaveUp = r, true
		default:
			panic(r)
		}
	}()
	read()
	return
}

// giveUp leaves what is being read, at the next token: of nothing but ErrEnd, if there is none.
func (p *parser) giveUp(err api.Errno) {
	if p.next == len(p.toks) {
		err = api.ErrEnd
	}
	panic(fault{err, p.next})
}

func (p *parser) tell(f fault) {
	at := p.size
	if f.tok < len(p.toks) {
		at = p.toks[f.tok].At
	}
	p.faults = append(p.faults, api.Fault{Err: f.err, At: at})
}

// isLast: does nothing go on behind this fault, which is not told yet?
func (p *parser) isLast(f fault) bool {
	return f.err == api.ErrEnd || len(p.faults) == maxFaults-1
}

// is needs no kind: no number is written as a sign or a word is.
func (p *parser) is(text string) bool {
	return p.next < len(p.toks) && p.toks[p.next].Text == text
}

func (p *parser) take(text string) bool {
	if !p.is(text) {
		return false
	}
	p.next++
	return true
}

func (p *parser) need(text string) {
	if !p.take(text) {
		p.giveUp(api.ErrWord)
	}
}

func (p *parser) isKind(kind int) bool {
	return p.next < len(p.toks) && p.toks[p.next].Kind == kind
}

func (p *parser) name() string {
	if !p.isKind(api.Name) || Word(p.toks[p.next].Text) {
		p.giveUp(api.ErrWord)
	}
	p.next++
	return p.toks[p.next-1].Text
}

func (p *parser) number() int {
	if !p.isKind(api.Number) {
		p.giveUp(api.ErrWord)
	}
	p.next++
	return p.toks[p.next-1].N
}

// side is a NUMBER or a NAME, as a dim.
func (p *parser) side() api.Dim {
	if p.isKind(api.Number) {
		return api.Dim{N: p.number()}
	}
	return api.Dim{Name: p.name()}
}

func (p *parser) dim() api.Dim {
	d := p.side()
	if d.Name != "" && p.take("+") {
		d.N = p.number()
	}
	return d
}

// list reads one, and others behind commas; the one beyond most is refused where it must begin, whatever stands there.
func (p *parser) list(most int, one func()) {
	one()
	for n := 1; p.take(","); n++ {
		if n == most {
			p.giveUp(api.ErrBig)
		}
		one()
	}
}
