package show

import (
	"strings"

	"proofmark/api"
)

// The levels, the loosest first.
const (
	muxLevel = iota
	orLevel
	xorLevel
	andLevel
	testLevel
	sumLevel
	termLevel
	invLevel
	sliceLevel
	closedLevel
)

// exprRule is how exprs of an Op are written: their level, their sign or word, and what writes them with it.
type exprRule struct {
	level int
	sign  string
	write func(*written) bool
}

func exprRules() map[int]exprRule {
	return map[int]exprRule{
		api.Lit:    {closedLevel, "'", (*written).lit},
		api.Ref:    {closedLevel, ".", (*written).ref},
		api.Inv:    {invLevel, "~", (*written).inv},
		api.RedOr:  {closedLevel, "any", (*written).call},
		api.RedAnd: {closedLevel, "all", (*written).call},
		api.Past:   {closedLevel, "past", (*written).call},
		api.Read:   {closedLevel, "at", (*written).read},
		api.Or:     {orLevel, " | ", (*written).chain},
		api.Xor:    {xorLevel, " ^ ", (*written).chain},
		api.And:    {andLevel, " & ", (*written).chain},
		api.Add:    {sumLevel, " + ", (*written).chain},
		api.Sub:    {sumLevel, " - ", (*written).chain},
		api.Mul:    {termLevel, " * ", (*written).chain},
		api.Eq:     {testLevel, " == ", (*written).test},
		api.Ne:     {testLevel, " != ", (*written).test},
		api.Lt:     {testLevel, " < ", (*written).test},
		api.Le:     {testLevel, " <= ", (*written).test},
		api.Mux:    {muxLevel, " ? ", (*written).mux},
		api.Cat:    {closedLevel, "{", (*written).cat},
		api.Slice:  {sliceLevel, "[", (*written).slice},
	}
}

// written is an expr of which its rule takes out what it writes: what is left then must be zero.
type written struct {
	api.Expr
	*writer
	rule exprRule
	deep int // how many exprs it stands within
}

func (w *writer) expr(e api.Expr) bool { return w.exprAt(e, muxLevel, 0) }

// exprAt writes an expr where one of a level may stand.
func (w *writer) exprAt(e api.Expr, level int, deep int) bool {
	rule, ok := w.exprs[e.Op]
	if !ok {
		return false
	}
	x := written{e, w, rule, deep}
	if rule.level < level {
		return w.say("(") && rule.write(&x) && w.say(")") && isSpentExpr(x.Expr)
	}
	return rule.write(&x) && isSpentExpr(x.Expr)
}

// isSpentExpr: is all zero but the Op?
func isSpentExpr(e api.Expr) bool {
	none := api.Dim{}
	return e.Val == none && e.Wid == none && e.Hi == none && e.Lo == none && e.Name == "" && len(e.Kids) == 0
}

func isNoExpr(e api.Expr) bool { return e.Op == 0 && isSpentExpr(e) }

// kid takes the first Kid that is left. Depth is counted on the way down, since Kids may have no end.
func (x *written) kid(level int) bool {
	if len(x.Kids) == 0 || x.deep == api.MaxDeep {
		return false
	}
	kid := x.Kids[0]
	x.Kids = x.Kids[1:]
	return x.exprAt(kid, level, x.deep+1)
}

func (x *written) lit() bool {
	return x.plainDim(take(&x.Wid)) && x.say(x.rule.sign) && x.plainDim(take(&x.Val))
}

func (x *written) ref() bool {
	first, second, two := strings.Cut(take(&x.Name), x.rule.sign)
	return x.name(first) && (!two || x.say(x.rule.sign) && x.name(second))
}

func (x *written) inv() bool { return x.say(x.rule.sign) && x.kid(invLevel) }

func (x *written) call() bool {
	return x.say(x.rule.sign) && x.say("(") && x.kid(muxLevel) && x.say(")")
}

func (x *written) read() bool {
	return x.say(x.rule.sign) && x.say("(") && x.name(take(&x.Name)) && x.say(", ") && x.kid(muxLevel) && x.say(")")
}

// chain has brackets on its right alone, if that is of its own level: what is parsed is joined from the left.
func (x *written) chain() bool {
	return x.kid(x.rule.level) && x.say(x.rule.sign) && x.kid(x.rule.level+1)
}

// test has brackets on both sides then: no test is parsed behind another one.
func (x *written) test() bool {
	return x.kid(sumLevel) && x.say(x.rule.sign) && x.kid(sumLevel)
}

func (x *written) mux() bool {
	return x.kid(orLevel) && x.say(x.rule.sign) && x.kid(muxLevel) && x.say(" : ") && x.kid(muxLevel)
}

func (x *written) cat() bool {
	return x.say(x.rule.sign) && x.kid(muxLevel) && x.say(", ") && x.kid(muxLevel) && x.say("}")
}

func (x *written) slice() bool {
	hi, lo := take(&x.Hi), take(&x.Lo)
	return x.kid(sliceLevel) && x.say(x.rule.sign) && x.dim(hi) && (lo == hi || x.say(":") && x.dim(lo)) && x.say("]")
}
