package show_test

import (
	"reflect"
	"regexp"
	"strconv"
	"strings"

	"proofmark/api"
)

// A second reading of C1 to C6, in the document's own shape. A form is a text with places: `@` and a level is the next
// Kid, `$` and a letter a field. Fields that a form does not name must be zero.

var exprForms = map[int]string{
	api.Lit: "$w'$v", api.Ref: "$r", api.Inv: "~@7",
	api.Or: "@1 | @2", api.Xor: "@2 ^ @3", api.And: "@3 & @4",
	api.Eq: "@5 == @5", api.Ne: "@5 != @5", api.Lt: "@5 < @5", api.Le: "@5 <= @5",
	api.Add: "@5 + @6", api.Sub: "@5 - @6", api.Mul: "@6 * @7",
	api.Mux: "@1 ? @0 : @0", api.Cat: "{@0, @0}", api.Slice: "@8[$H$L]",
	api.RedOr: "any(@0)", api.RedAnd: "all(@0)", api.Past: "past(@0)", api.Read: "at($n, @0)",
}

var exprLevels = map[int]int{
	api.Mux: 0, api.Or: 1, api.Xor: 2, api.And: 3, api.Eq: 4, api.Ne: 4, api.Lt: 4, api.Le: 4,
	api.Add: 5, api.Sub: 5, api.Mul: 6, api.Inv: 7, api.Slice: 8,
	api.Lit: 9, api.Ref: 9, api.Cat: 9, api.RedOr: 9, api.RedAnd: 9, api.Past: 9, api.Read: 9,
}

var itemForms = map[int]string{
	api.Wire: "wire $n : $W = $E;", api.Reg: "reg $n : $W = $V;", api.Mem: "mem $n[$V] : $W;",
	api.Inst:   "inst $n $M$<($B);",
	api.Assert: "assert $n : $E;", api.Assume: "assume $n : $E;", api.Cover: "cover $n : $E;",
	api.Next: "next $n = $E;", api.Drive: "out $n = $E;", api.Put: "put $n[$A] = $E if $I;",
}

const (
	moduleForm = "module $n$P($p) {\n$i}\n"
	bindForm   = "$o : $E"
)

// fieldOf is which field a letter names.
var fieldOf = map[byte]string{
	'w': "Wid", 'v': "Val", 'W': "Wid", 'V': "Val", 'H': "Hi", 'L': "Lo", 'r': "Name", 'n': "Name", 'M': "Mod",
	'<': "Args", 'B': "Binds", 'E': "E", 'A': "At", 'I': "If", 'P': "Params", 'p': "Ports", 'i': "Items", 'o': "Port",
}

var nameShape = regexp.MustCompile(`^[A-Za-z_][A-Za-z0-9_]*$`)

var keptShape = regexp.MustCompile(`^(module|in|out|wire|reg|mem|inst|assert|assume|cover|next|put|if|any|all|past|at)$`)

// told is a text, and whether what it tells is right.
type told struct {
	text  string
	right bool
}

func tellName(s string) told {
	return told{s, nameShape.MatchString(s) && !strings.HasSuffix(s, "\n") && !keptShape.MatchString(s) && len(s) <= 20000}
}

func tellRef(s string) told {
	right := true
	l := strings.Split(s, ".")
	for _, part := range l {
		right = right && tellName(part).right
	}
	return told{s, right && len(l) <= 2}
}

func tellDim(d api.Dim) told {
	right := d.N >= 0 && d.N <= 65535 && (d.Name == "" || tellName(d.Name).right)
	switch {
	case d.Name == "":
		return told{strconv.Itoa(d.N), right}
	case d.N == 0:
		return told{d.Name, right}
	}
	return told{d.Name + "+" + strconv.Itoa(d.N), right}
}

func tellPlain(d api.Dim) told {
	x := tellDim(d)
	return told{x.text, x.right && (d.Name == "" || d.N == 0)}
}

func tellPort(p api.Port) told {
	word := map[bool]string{true: "in ", false: "out "}[p.In]
	return joined(word, tellName(p.Name), " : ", tellDim(p.Wid))
}

// joined takes texts, and what was told.
func joined(l ...any) told {
	all := told{"", true}
	for _, x := range l {
		switch x := x.(type) {
		case string:
			all.text += x
		case told:
			all = told{all.text + x.text, all.right && x.right}
		}
	}
	return all
}

// tellList is of at most so many; ahead, between and behind stand around and among them, if there are any.
func tellList[T any](l []T, most int, ahead, between, behind string, one func(T) told) told {
	all := told{"", len(l) <= most}
	for i, x := range l {
		sep := between
		if i == 0 {
			sep = ahead
		}
		all = joined(all, sep, one(x))
	}
	if len(l) > 0 {
		all.text += behind
	}
	return all
}

// tellField is what a letter of a form says of a value.
func tellField(letter byte, v reflect.Value) told {
	x := v.FieldByName(fieldOf[letter]).Interface()
	switch letter {
	case 'n', 'M', 'o':
		return tellName(x.(string))
	case 'r':
		return tellRef(x.(string))
	case 'w', 'v':
		return tellPlain(x.(api.Dim))
	case 'W', 'V', 'H':
		return tellDim(x.(api.Dim))
	case 'L':
		lo := x.(api.Dim)
		if lo == v.FieldByName("Hi").Interface() {
			return told{"", true}
		}
		return joined(":", tellDim(lo))
	case 'E', 'A', 'I':
		return tellExpr(x.(api.Expr))
	case '<':
		return tellList(x.([]api.Dim), 4, "<", ", ", ">", tellDim)
	case 'P':
		return tellList(x.([]string), 4, "<", ", ", ">", tellName)
	case 'p':
		return tellList(x.([]api.Port), 16, "", ", ", "", tellPort)
	case 'B':
		return tellList(x.([]api.Bind), 16, "", ", ", "", func(b api.Bind) told { return tellForm(bindForm, b, 0) })
	case 'i':
		return tellList(x.([]api.Item), 64, "  ", "\n  ", "\n", tellItem)
	}
	panic("no such field")
}

// tellForm fills a form from a struct; its Kids, if it has any, are deep levels down.
func tellForm(form string, x any, deep int) told {
	v := reflect.ValueOf(x)
	all := told{"", true}
	named := map[string]bool{"Op": true, "Kind": true}
	kids := 0
	for i := 0; i < len(form); i++ {
		switch form[i] {
		case '@':
			i++
			named["Kids"] = true
			all = joined(all, tellKid(v.FieldByName("Kids").Interface().([]api.Expr), kids, int(form[i]-'0'), deep))
			kids++
		case '$':
			i++
			named[fieldOf[form[i]]] = true
			all = joined(all, tellField(form[i], v))
		default:
			all.text += form[i : i+1]
		}
	}
	if k := v.FieldByName("Kids"); k.IsValid() && k.Len() != kids {
		all.right = false
	}
	for i := range v.NumField() {
		if !named[v.Type().Field(i).Name] && !isZero(v.Field(i)) {
			all.right = false
		}
	}
	return all
}

// isZero counts an empty row as zero.
func isZero(v reflect.Value) bool {
	switch v.Kind() {
	case reflect.Slice:
		return v.Len() == 0
	case reflect.Struct:
		for i := range v.NumField() {
			if !isZero(v.Field(i)) {
				return false
			}
		}
		return true
	}
	return v.IsZero()
}

func tellKid(kids []api.Expr, i, level, deep int) told {
	if i >= len(kids) || deep == 8 {
		return told{}
	}
	x := tellExprIn(kids[i], deep+1)
	if exprLevels[kids[i].Op] < level {
		x.text = "(" + x.text + ")"
	}
	return x
}

func tellExprIn(e api.Expr, deep int) told {
	form, ok := exprForms[e.Op]
	if !ok {
		return told{}
	}
	return tellForm(form, e, deep)
}

func tellExpr(e api.Expr) told { return tellExprIn(e, 0) }

func tellItem(it api.Item) told {
	form, ok := itemForms[it.Kind]
	if !ok {
		return told{}
	}
	return tellForm(form, it, 0)
}

// tellDesign is of a text of any length.
func tellDesign(d api.Design) told {
	return tellList(d.Modules, 16, "", "", "", func(m api.Module) told { return tellForm(moduleForm, m, 0) })
}

// isOne holds any two values against each other, field by field, where an empty row is none.
func isOne(a, b reflect.Value) bool {
	switch a.Kind() {
	case reflect.Slice:
		if a.Len() != b.Len() {
			return false
		}
		for i := range a.Len() {
			if !isOne(a.Index(i), b.Index(i)) {
				return false
			}
		}
		return true
	case reflect.Struct:
		for i := range a.NumField() {
			if !isOne(a.Field(i), b.Field(i)) {
				return false
			}
		}
		return true
	}
	return a.Interface() == b.Interface()
}

func alike(a, b any) bool { return isOne(reflect.ValueOf(a), reflect.ValueOf(b)) }
