package show

import (
	"slices"

	"proofmark/api"
)

// Same: are two alike?
func Same(a api.Design, b api.Design) bool {
	m := matcher{met: map[rows]bool{}}
	return slices.EqualFunc(a.Modules, b.Modules, m.module) && m.allKids()
}

// rows are two of Kids, of one length: which ones, not what stands in them.
type rows struct {
	a, b *api.Expr
	size int
}

// matcher holds designs against each other. Kids are put off, since they may be deeper than calls can be, and are
// looked at once, since a row may stand within itself, or in many places.
type matcher struct {
	later [][2][]api.Expr
	met   map[rows]bool
}

func (m *matcher) module(a, b api.Module) bool {
	return a.Name == b.Name && slices.Equal(a.Params, b.Params) && slices.Equal(a.Ports, b.Ports) &&
		slices.EqualFunc(a.Items, b.Items, m.item)
}

func (m *matcher) item(a, b api.Item) bool {
	return a.Kind == b.Kind && a.Name == b.Name && a.Wid == b.Wid && a.Val == b.Val && a.Mod == b.Mod &&
		slices.Equal(a.Args, b.Args) && slices.EqualFunc(a.Binds, b.Binds, m.bind) &&
		m.expr(a.E, b.E) && m.expr(a.At, b.At) && m.expr(a.If, b.If)
}

func (m *matcher) bind(a, b api.Bind) bool { return a.Port == b.Port && m.expr(a.E, b.E) }

func (m *matcher) expr(a, b api.Expr) bool {
	return a.Op == b.Op && a.Val == b.Val && a.Wid == b.Wid && a.Hi == b.Hi && a.Lo == b.Lo && a.Name == b.Name &&
		m.kids(a.Kids, b.Kids)
}

// kids puts rows off that may be alike.
func (m *matcher) kids(a, b []api.Expr) bool {
	if len(a) != len(b) || len(a) == 0 {
		return len(a) == len(b)
	}
	r := rows{&a[0], &b[0], len(a)}
	if !m.met[r] {
		m.met[r] = true
		m.later = append(m.later, [2][]api.Expr{a, b})
	}
	return true
}

func (m *matcher) allKids() bool {
	for len(m.later) > 0 {
		last := len(m.later) - 1
		pair := m.later[last]
		m.later = m.later[:last]
		if !slices.EqualFunc(pair[0], pair[1], m.expr) {
			return false
		}
	}
	return true
}
