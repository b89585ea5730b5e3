package scope_test

import (
	"slices"
	"strconv"
	"strings"
	"testing"

	"proofmark/api"
	"proofmark/scope"
	"proofmark/syn"
)

func ref(name string) api.Expr { return api.Expr{Op: api.Ref, Name: name} }

func one() api.Expr { return api.Expr{Op: api.Lit, Wid: api.Dim{N: 1}, Val: api.Dim{N: 1}} }

func of(op int, kids ...api.Expr) api.Expr { return api.Expr{Op: op, Kids: kids} }

func read(name string, kids ...api.Expr) api.Expr {
	return api.Expr{Op: api.Read, Name: name, Kids: kids}
}

func dim(name string) api.Dim { return api.Dim{Name: name, N: 1} }

func design(m ...api.Module) api.Design { return api.Design{Modules: m} }

// parsed is a text's design, which may have faults of names, but not of another kind.
func parsed(t *testing.T, s string) api.Design {
	t.Helper()
	d, faults := syn.Parse(s)
	if len(faults) > 0 {
		t.Fatalf("%q is no text of a design: %v", s, faults)
	}
	return d
}

func at(err api.Errno, mod, item int) api.Fault { return api.Fault{Err: err, Mod: mod, Item: item} }

func wantFaults(t *testing.T, why string, d api.Design, want ...api.Fault) {
	t.Helper()
	if got := scope.Check(d); !slices.Equal(got, want) {
		t.Errorf("%s: Check tells %v; want %v", why, got, want)
	}
}

func wantText(t *testing.T, s string, want ...api.Fault) {
	t.Helper()
	wantFaults(t, s, parsed(t, s), want...)
}

func wantKind(t *testing.T, m api.Module, name string, kind, place int) {
	t.Helper()
	if k, at := scope.Kind(m, name); k != kind || at != place {
		t.Errorf("Kind(%v, %q) = %d, %d; want %d, %d", m, name, k, at, kind, place)
	}
}

// lower is a module with all kinds of names, for others to stand on.
const lower = `module low<n, k>(in a : n, out b : k, in c : 1) { out b = a; } `

// whole is a design without faults that has each kind of item, and each Op.
const whole = lower + `module sum<n>(in x : n, in y : n + 1, out s : n) {
  wire w : n = x + y - x * y; out s = (x & w | y ^ w) == 1'n ? ~x : n'1;
}
module top(in i : 2, out o : 1, out q : 4) {
  wire w : 1 = v.b;
  inst v low<1, 2>(c : r, a : any(w));
  reg r : 1 = 0;
  mem m[4] : 2;
  next r = all(i) | past(w) & (i != 2'0);
  out o = {w, r}[1] ? i < 2'1 : i <= 2'2;
  put m[i] = at(m, i) if w;
  assert p : w;
  assume e : at(m, i)[1:1];
  cover h : 1'1;
  inst z sum<3>(x : i, y : v.b);
  out q = z.s;
}`

// P5.1: the chapter's examples.
func TestExamples(t *testing.T) {
	wantText(t, "module m() { wire a : 1 = b; }", at(api.ErrNone, 0, 0))
	wantText(t, "module m(in a : 1) { wire a : 1 = 1'1; }", at(api.ErrTwice, 0, 0))
}

// P5.1, E2: ordinary designs have no faults.
func TestWhole(t *testing.T) {
	wantText(t, whole)
	wantText(t, lower+"module m() { }")
	wantText(t, "module m() { }")
	wantText(t, "module m(in a : 1, out b : 1) { out b = a; }")
}

// P5.1, E2: a design without modules.
func TestNoModules(t *testing.T) {
	wantFaults(t, "no modules", api.Design{}, at(api.ErrNone, 0, -1))
	wantFaults(t, "an empty row of modules", design([]api.Module{}...), at(api.ErrNone, 0, -1))
}

// P5.1, E1: a name of each kind, and names that are none.
func TestKind(t *testing.T) {
	d := parsed(t, whole)
	low, top := d.Modules[0], d.Modules[2]
	for i, name := range []string{"n", "k"} {
		wantKind(t, low, name, 1, i)
	}
	wantKind(t, low, "a", 2, 0)
	wantKind(t, low, "b", 3, 1)
	wantKind(t, low, "c", 2, 2)
	wantKind(t, top, "i", 2, 0)
	wantKind(t, top, "o", 3, 1)
	wantKind(t, top, "q", 3, 2)
	wantKind(t, top, "w", 4, 0)
	wantKind(t, top, "v", 7, 1)
	wantKind(t, top, "r", 5, 2)
	wantKind(t, top, "m", 6, 3)
	wantKind(t, top, "z", 7, 10)
	// Properties have names that are none of these; what Next, Drive and Put name is something else.
	for _, name := range []string{"p", "e", "h", "", "x", "v.b", "W", "w ", "top", "low"} {
		wantKind(t, top, name, 0, 0)
	}
	wantKind(t, api.Module{}, "a", 0, 0)
	wantKind(t, api.Module{}, "", 0, 0)
	wantKind(t, api.Module{Name: "a"}, "a", 0, 0)
}

// P5.1, E1: params are ahead of ports, ports of items; of one kind the first one counts.
func TestKindOfSeveral(t *testing.T) {
	m := api.Module{
		Params: []string{"x", "z", "z"},
		Ports:  []api.Port{{In: true, Name: "x"}, {Name: "y"}, {In: true, Name: "y"}, {In: true, Name: "s"}, {Name: "s"}},
		Items: []api.Item{
			{Kind: api.Wire, Name: "x"}, {Kind: api.Reg, Name: "y"}, {Kind: api.Mem, Name: "z"},
			{Kind: api.Assert, Name: "u"}, {Kind: api.Next, Name: "u"}, {Kind: api.Inst, Name: "u"}, {Kind: api.Wire, Name: "u"},
			{Kind: api.Cover, Name: "q"}, {Kind: api.Assume, Name: "q"}, {Kind: api.Drive, Name: "q"}, {Kind: api.Put, Name: "q"},
		},
	}
	wantKind(t, m, "x", 1, 0)
	wantKind(t, m, "z", 1, 1)
	wantKind(t, m, "y", 3, 1)
	wantKind(t, m, "s", 2, 3)
	wantKind(t, m, "u", 7, 5)
	wantKind(t, m, "q", 0, 0)
	// Whatever else a name is held against, it is by what stands in it.
	odd := api.Module{Ports: []api.Port{{Name: "v.b"}, {In: true}}, Items: []api.Item{{Kind: api.Reg, Name: "Straße"}}}
	wantKind(t, odd, "v.b", 3, 0)
	wantKind(t, odd, "", 2, 1)
	wantKind(t, odd, "Straße", 5, 0)
}

// P5.1, E1: items of each kind, those that are none among them.
func TestKindOfEachItem(t *testing.T) {
	told := map[int]int{api.Wire: 4, api.Reg: 5, api.Mem: 6, api.Inst: 7}
	for kind := -2; kind <= 24; kind++ {
		m := api.Module{Items: []api.Item{{Kind: api.Wire, Name: "b"}, {Kind: kind, Name: "a"}}}
		place := 0
		if told[kind] != 0 {
			place = 1
		}
		wantKind(t, m, "a", told[kind], place)
	}
}

// P5.1, E2: a name that stands twice among modules, params and ports.
func TestModuleTwice(t *testing.T) {
	wantText(t, "module a() { } module b() { } module a() { }", at(api.ErrTwice, 2, -1))
	wantText(t, "module a() { } module a() { } module a() { }", at(api.ErrTwice, 1, -1), at(api.ErrTwice, 2, -1))
	tail := "() { } module m() { }"
	wantText(t, "module a<n, k, n>"+tail, at(api.ErrTwice, 0, -1))
	for _, ports := range []string{"in a : 1, out b : 1, in a : 1", "in a : 1, out a : 1", "out a : 1, in a : 1", "out a : 1, out a : 1",
		"in n : 1", "out a : 1, out n : 1"} {
		wantText(t, "module l<n>("+ports+") { } module m() { }", at(api.ErrTwice, 0, -1))
	}
	// Names of different modules, of a module and of what stands in it, are not held against each other.
	wantText(t, "module a<n>(in a : n) { } module n(in a : 1, in n : 1) { wire b : 1 = a; } module b() { }")
}

// P5.1, E2: the last module has no params, whatever else it has; the ones ahead may.
func TestTopWithParams(t *testing.T) {
	wantText(t, "module m<n>() { }", at(api.ErrArg, 0, -1))
	wantText(t, "module l<n, k>() { } module m<n, k>(in a : n) { wire w : k = a; }", at(api.ErrArg, 1, -1))
	wantText(t, "module l<n, k>() { } module m() { }")
}

// P5.1, E2: a port's width hangs on params of its own module alone.
func TestPortParam(t *testing.T) {
	wantText(t, "module l<n>(in a : n, out b : k + 1) { } module m() { }", at(api.ErrParam, 0, -1))
	wantText(t, "module l<n>(in a : n) { } module m(out a : n) { }", at(api.ErrParam, 1, -1))
	wantText(t, "module l<n>(in a : 1, out b : a) { } module m() { }", at(api.ErrParam, 0, -1))
	wantText(t, "module m(in a : w) { wire w : 1 = a; }", at(api.ErrParam, 0, -1))
	// A Name that is empty is none, even where a param is empty, or no N is there.
	wantFaults(t, "empty names", design(api.Module{Ports: []api.Port{{Name: "a"}}}))
	wantFaults(t, "an empty param", design(api.Module{Name: "l", Params: []string{""}, Ports: []api.Port{{Name: "a"}}}, api.Module{}))
}

// P5.1, E2, and the rule P2: of several faults of a module the one that is named first is told, and one alone.
func TestModuleOrder(t *testing.T) {
	wantText(t, "module a() { } module a<n>(in b : k) { }", at(api.ErrTwice, 1, -1))
	wantText(t, "module a<n, n>(in b : k, in b : k) { }", at(api.ErrTwice, 0, -1))
	wantText(t, "module a<n>(in n : k) { }", at(api.ErrTwice, 0, -1))
	wantText(t, "module a<n>(in b : k) { }", at(api.ErrArg, 0, -1))
	wantText(t, "module a(in b : k, in c : k) { }", at(api.ErrParam, 0, -1))
}

// P5.1, E2: a module that has a fault of its own is gone through nonetheless, and others are.
func TestModuleAndItems(t *testing.T) {
	wantText(t, "module a<n>(in a : k) { wire b : n = c; wire b : 1 = a; cover d : b; } module a() { wire a : n = a; }",
		at(api.ErrParam, 0, -1), at(api.ErrNone, 0, 0), at(api.ErrTwice, 0, 1), at(api.ErrTwice, 1, -1), at(api.ErrParam, 1, 0))
}

// P5.1, E2 to E4: wrong inputs: zero values of all kinds.
func TestZeroValues(t *testing.T) {
	wantFaults(t, "a module", design(api.Module{}))
	wantFaults(t, "modules", design(api.Module{}, api.Module{}), at(api.ErrTwice, 1, -1))
	items := []api.Item{{}, {}}
	wantFaults(t, "items", design(api.Module{Items: items}), at(api.ErrKind, 0, 0), at(api.ErrKind, 0, 1))
	for kind := range 11 {
		want := map[int]api.Errno{0: api.ErrKind, api.Next: api.ErrNone, api.Drive: api.ErrNone, api.Put: api.ErrNone,
			api.Inst: api.ErrLoop, api.Wire: api.ErrArg, api.Assert: api.ErrArg, api.Assume: api.ErrArg, api.Cover: api.ErrArg}[kind]
		d := design(api.Module{Items: []api.Item{{Kind: kind}}})
		if want == api.OK {
			wantFaults(t, "a register, or a memory", d)
		} else {
			wantFaults(t, "an item of a kind alone", d, at(want, 0, 0))
		}
	}
	empty := api.Module{Items: []api.Item{{Kind: api.Reg}, {Kind: api.Mem}}}
	wantFaults(t, "two empty names", design(empty), at(api.ErrTwice, 0, 1))
	within := api.Module{Name: "m", Items: []api.Item{{Kind: api.Inst}}}
	wantFaults(t, "an instance of a module whose name is empty", design(api.Module{}, within))
}

// The rule P1: a name may be long, and there may be many of all.
func TestMany(t *testing.T) {
	long := strings.Repeat("x", 1<<16)
	m := api.Module{Name: long}
	for i := range 20000 {
		name := strconv.Itoa(i)
		m.Params = append(m.Params, "p"+name)
		m.Ports = append(m.Ports, api.Port{In: true, Name: "q" + name, Wid: dim("p" + name)})
		m.Items = append(m.Items, api.Item{Kind: api.Wire, Name: name, Wid: dim("p" + name), E: ref("q" + name)})
	}
	wantFaults(t, "many", design(m, api.Module{}))
	m.Items[19999].E = ref("q" + long)
	wantFaults(t, "many, and one wrong", design(m, api.Module{}), at(api.ErrNone, 0, 19999))
}
