package syn_test

import (
	"slices"
	"strconv"
	"strings"

	"proofmark/api"
	"proofmark/lex"
)

// The rules of B2 once more, as text that is gone by, so that the program is held against another reading of them.
// 'x' is a token of that text, [ .. ] may stand there, { .. } any many times, ( .. | .. ) is one of them, and x/n is a
// list of x with commas between, of which no more than n may begin (B4).
const grammar = `
head = 'module' NAME [ '<' NAME/4 '>' ] '(' [ port/16 ] ')' '{'
port = ( 'in' | 'out' ) NAME ':' dim
item = ( wire | reg | mem | inst | property | value | put ) ';'
wire = 'wire' NAME ':' dim '=' expr
reg = 'reg' NAME ':' dim '=' dim
mem = 'mem' NAME '[' dim ']' ':' dim
inst = 'inst' NAME NAME [ '<' dim/4 '>' ] '(' [ bind/16 ] ')'
property = ( 'assert' | 'assume' | 'cover' ) NAME ':' expr
value = ( 'next' | 'out' ) NAME '=' expr
put = 'put' NAME '[' expr ']' '=' expr 'if' expr
bind = NAME ':' expr
dim = ( NUMBER | NAME [ '+' NUMBER ] )
expr = or [ '?' expr ':' expr ]
or = xor { '|' xor }
xor = and { '^' and }
and = test { '&' test }
test = sum [ ( '==' | '!=' | '<' | '<=' ) sum ]
sum = term { ( '+' | '-' ) term }
term = unary { '*' unary }
unary = ( '~' unary | post )
post = primary { '[' dim [ ':' dim ] ']' }
primary = ( literal | NAME [ '.' NAME ] | '(' expr ')' | '{' expr ',' expr '}' | reduce | 'at' '(' NAME ',' expr ')' )
literal = ( NUMBER | NAME ) ''' ( NUMBER | NAME )
reduce = ( 'any' | 'all' | 'past' ) '(' expr ')'
`

// form is a piece of a rule.
type form struct {
	kind  string // token, NAME, NUMBER, BIG, rule, all, any, many
	text  string
	parts []form
}

// ahead is what must still come: a form, and then the rest.
type ahead struct {
	form form
	rest *ahead
}

type rules map[string]form

func readGrammar() rules {
	g := rules{}
	for _, line := range strings.Split(strings.TrimSpace(grammar), "\n") {
		name, body, _ := strings.Cut(line, " = ")
		f, _ := readForms(strings.Fields(body))
		g[name] = f
	}
	return g
}

var b2 = readGrammar()

// readForms reads up to a closing sign, or the end; what it tells of `|` is one of what stands between.
func readForms(l []string) (form, []string) {
	choices := form{kind: "any", parts: []form{{kind: "all"}}}
	for len(l) > 0 {
		first := l[0]
		l = l[1:]
		var f form
		switch first {
		case ")", "]", "}":
			return choices, l
		case "|":
			choices.parts = append(choices.parts, form{kind: "all"})
			continue
		case "(":
			f, l = readForms(l)
		case "[":
			f, l = readForms(l)
			f.parts = append(f.parts, form{kind: "all"})
		case "{":
			f, l = readForms(l)
			f = form{kind: "many", parts: []form{f}}
		default:
			f = readForm(first)
		}
		last := &choices.parts[len(choices.parts)-1]
		last.parts = append(last.parts, f)
	}
	return choices, nil
}

func readForm(s string) form {
	if strings.HasPrefix(s, "'") {
		return form{kind: "token", text: s[1 : len(s)-1]}
	}
	if s == "NAME" || s == "NUMBER" {
		return form{kind: s}
	}
	if one, most, ok := strings.Cut(s, "/"); ok {
		n, _ := strconv.Atoi(most)
		return listOf(readForm(one), n)
	}
	return form{kind: "rule", text: s}
}

// listOf nests lists, the innermost one of which asks for what no token is.
func listOf(one form, most int) form {
	rest := form{kind: "all", parts: []form{{kind: "token", text: ","}, {kind: "BIG"}}}
	for range most - 1 {
		rest = form{kind: "all", parts: []form{{kind: "token", text: ","}, one, {kind: "any", parts: []form{rest, {kind: "all"}}}}}
	}
	return form{kind: "all", parts: []form{one, {kind: "any", parts: []form{rest, {kind: "all"}}}}}
}

// behind is all that may come behind a token, if it stands where a is ahead; big says that what is too much was ahead.
func (g rules) behind(a *ahead, t api.Tok) (l []*ahead, big bool) {
	if a == nil {
		return nil, false
	}
	try := func(next *ahead) {
		more, b := g.behind(next, t)
		l, big = append(l, more...), big || b
	}
	switch f := a.form; f.kind {
	case "BIG":
		return nil, true
	case "rule":
		try(&ahead{g[f.text], a.rest})
	case "all":
		next := a.rest
		for i := len(f.parts) - 1; i >= 0; i-- {
			next = &ahead{f.parts[i], next}
		}
		try(next)
	case "any":
		for _, part := range f.parts {
			try(&ahead{part, a.rest})
		}
	case "many":
		try(&ahead{f.parts[0], a})
		try(a.rest)
	default:
		if f.takes(t) {
			l = append(l, a.rest)
		}
	}
	return l, big
}

func (f form) takes(t api.Tok) bool {
	switch f.kind {
	case "NAME":
		return t.Kind == api.Name && !slices.Contains(keptWords, t.Text)
	case "NUMBER":
		return t.Kind == api.Number
	}
	return t.Text == f.text
}

// through goes from a token on to the end of a rule, whose last token is its alone; or to what is wrong.
func (g rules) through(rule string, toks []api.Tok, from int) (int, api.Errno) {
	l := []*ahead{{form{kind: "rule", text: rule}, nil}}
	for at := from; at < len(toks); at++ {
		var next []*ahead
		big := false
		for _, a := range l {
			more, b := g.behind(a, toks[at])
			next, big = append(next, more...), big || b
		}
		if len(next) == 0 && big {
			return at, api.ErrBig
		}
		if len(next) == 0 {
			return at, api.ErrWord
		}
		for _, a := range next {
			if a == nil {
				return at + 1, api.OK
			}
		}
		l = next
	}
	return len(toks), api.ErrEnd
}

// reading is what B4 and B5 tell of a text, but for how deep exprs are: its faults, and which tokens its modules' heads
// and items are that are kept.
type reading struct {
	toks   []api.Tok
	size   int
	faults []api.Fault
	kept   []keptModule
	over   bool
}

type keptModule struct {
	head  [2]int
	items [][2]int
}

func (r *reading) tell(err api.Errno, tok int) {
	at := r.size
	if tok < len(r.toks) {
		at = r.toks[tok].At
	}
	r.faults = append(r.faults, api.Fault{Err: err, At: at})
	r.over = err == api.ErrEnd || len(r.faults) == 20
}

func (r *reading) find(from int, texts string) int {
	for from < len(r.toks) && !strings.Contains(" "+texts+" ", " "+r.toks[from].Text+" ") {
		from++
	}
	return from
}

func readText(s string) (reading, api.Errno, int) {
	toks, err, at := lex.Lex(s)
	r := reading{toks: toks, size: len(s)}
	if err == api.OK {
		r.design()
	}
	return r, err, at
}

func (r *reading) design() {
	begun := 0
	for at := 0; at < len(r.toks) && !r.over; {
		behind, err := b2.through("head", r.toks, at)
		if r.toks[at].Text == "module" {
			begun++
			if begun > 16 {
				behind, err = at, api.ErrBig
			}
		}
		switch err {
		case api.OK:
			m := keptModule{head: [2]int{at, behind}}
			at = r.items(&m, behind)
			if !r.over {
				r.kept = append(r.kept, m)
			}
		case api.ErrBig:
			r.tell(err, behind)
			at = r.find(behind+1, "module")
		default:
			r.tell(err, behind)
			at = r.find(behind, "module")
		}
	}
}

// items is where a module's body ends, behind its `}`.
func (r *reading) items(m *keptModule, at int) int {
	begun := 0
	for !r.over {
		if at < len(r.toks) && r.toks[at].Text == "}" {
			return at + 1
		}
		behind, err := b2.through("item", r.toks, at)
		if behind > at {
			begun++
			if begun > 64 {
				behind, err = at, api.ErrBig
			}
		}
		if err == api.OK {
			m.items = append(m.items, [2]int{at, behind})
			at = behind
			continue
		}
		r.tell(err, behind)
		at = r.find(behind, "; }")
		if at == len(r.toks) && !r.over {
			r.tell(api.ErrEnd, at)
		}
		if at < len(r.toks) && r.toks[at].Text == ";" {
			at++
		}
	}
	return at
}

// rest is the text without what is not kept: by it, the kept design has no fault.
func (r *reading) rest() string {
	var b strings.Builder
	for _, m := range r.kept {
		b.WriteString(lex.Text(r.toks[m.head[0]:m.head[1]]) + "\n")
		for _, it := range m.items {
			b.WriteString(lex.Text(r.toks[it[0]:it[1]]) + "\n")
		}
		b.WriteString("}\n")
	}
	return b.String()
}
