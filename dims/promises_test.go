package dims_test

import (
	"math"
	"math/big"
	"math/rand"
	"slices"
	"testing"

	"proofmark/api"
	"proofmark/dims"
)

// expected is what D1 says, told once more over whole numbers that never wrap round.
func expected(d api.Dim, names []string, vals []int) (int, api.Errno) {
	sum := big.NewInt(int64(d.N))
	if d.Name != "" {
		first := map[string]int{}
		for i := len(names) - 1; i >= 0; i-- {
			first[names[i]] = vals[i]
		}
		v, ok := first[d.Name]
		if !ok {
			return 0, api.ErrParam
		}
		sum.Add(sum, big.NewInt(int64(v)))
	}
	most := big.NewInt(65535)
	if big.NewInt(int64(d.N)).Cmp(most) > 0 || d.N < 0 || sum.Sign() < 0 || sum.Cmp(most) > 0 {
		return 0, api.ErrRange
	}
	return int(sum.Int64()), api.OK
}

func expectedWidth(d api.Dim, names []string, vals []int) (int, api.Errno) {
	n, e := expected(d, names, vals)
	if e == api.OK && (n == 0 || n > 16) {
		return 0, api.ErrRange
	}
	return n, e
}

func expectedRow(l []api.Dim, names []string, vals []int) ([]int, api.Errno) {
	row := make([]int, len(l))
	for i, d := range l {
		n, e := expected(d, names, vals)
		if e != api.OK {
			return nil, e
		}
		row[i] = n
	}
	return row, api.OK
}

// P4.1, and the rules P2 and P3: the answers are what D1 to D3 say, are the same again, and change nothing.
func checkTold(t *testing.T, l []api.Dim, names []string, vals []int) {
	t.Helper()
	keptL, keptNames, keptVals := slices.Clone(l), slices.Clone(names), slices.Clone(vals)
	for range 2 {
		for _, d := range l {
			n, e := expected(d, names, vals)
			wantValue(t, d, names, vals, n, e)
			n, e = expectedWidth(d, names, vals)
			wantWidth(t, d, names, vals, n, e)
		}
		got, e := dims.Values(l, names, vals)
		if want, wantErr := expectedRow(l, names, vals); !slices.Equal(got, want) || e != wantErr {
			t.Errorf("P4.1: Values(%v, %q, %v) = %v, %d; want %v, %d", l, names, vals, got, e, want, wantErr)
		}
	}
	if !slices.Equal(l, keptL) || !slices.Equal(names, keptNames) || !slices.Equal(vals, keptVals) {
		t.Errorf("P3: %v, %q, %v was changed to %v, %q, %v", keptL, keptNames, keptVals, l, names, vals)
	}
}

// answers is all that is told of a row.
type answers struct {
	values, widths, row []int
	errs                []api.Errno
}

func told(l []api.Dim, names []string, vals []int) answers {
	var a answers
	for _, d := range l {
		n, e := dims.Value(d, names, vals)
		w, f := dims.Width(d, names, vals)
		a.values, a.widths, a.errs = append(a.values, n), append(a.widths, w), append(a.errs, e, f)
	}
	row, e := dims.Values(l, names, vals)
	a.row, a.errs = row, append(a.errs, e)
	return a
}

func (a answers) same(b answers) bool {
	return slices.Equal(a.values, b.values) && slices.Equal(a.widths, b.widths) && slices.Equal(a.row, b.row) &&
		slices.Equal(a.errs, b.errs)
}

// named tells of each parameter whether l names it, and it is the first one of its name.
func named(l []api.Dim, names []string) []bool {
	tells := make([]bool, len(names))
	for i, name := range names {
		asked := slices.ContainsFunc(l, func(d api.Dim) bool { return d.Name != "" && d.Name == name })
		tells[i] = asked && slices.Index(names, name) == i
	}
	return tells
}

func checkAlike(t *testing.T, l []api.Dim, names []string, vals []int, names2 []string, vals2 []int) {
	t.Helper()
	if a, b := told(l, names, vals), told(l, names2, vals2); !a.same(b) {
		t.Errorf("P4.2: of %v %q, %v tells %v, and %q, %v tells %v", l, names, vals, a, names2, vals2, b)
	}
}

// P4.2: parameters that are not named have other numbers, are left out, or are moved behind; others are added on all sides.
func checkHangs(t *testing.T, r *rand.Rand, l []api.Dim, names []string, vals []int) {
	t.Helper()
	tells := named(l, names)
	other := slices.Clone(vals)
	var keptNames, mixedNames, leftNames []string
	var keptVals, mixedVals, leftVals []int
	for i := range names {
		mixedNames, mixedVals = append(mixedNames, "unasked", "", names[i]), append(mixedVals, r.Intn(65536), 3, vals[i])
		if tells[i] {
			keptNames, keptVals = append(keptNames, names[i]), append(keptVals, vals[i])
		} else {
			other[i] = r.Intn(65536)
			leftNames, leftVals = append(leftNames, names[i]), append(leftVals, other[i])
		}
	}
	checkAlike(t, l, names, vals, names, other)
	checkAlike(t, l, names, vals, keptNames, keptVals)
	checkAlike(t, l, names, vals, mixedNames, mixedVals)
	checkAlike(t, l, names, vals, append(keptNames, leftNames...), append(keptVals, leftVals...))
}

// P4.2: no parameter that a row does not name is seen in what is told of it, even one that is wrong.
func TestHangsOnNamedAlone(t *testing.T) {
	l := []api.Dim{{N: 3}, {Name: "n", N: 1}, {Name: "m", N: 16}}
	names := []string{"n", "x", "m", "n"}
	checkAlike(t, l, names, []int{4, 0, 0, 0}, names, []int{4, 65535, 0, 65535})
	checkAlike(t, l, names, []int{4, 0, 0, 0}, []string{"n", "m"}, []int{4, 0})
	checkAlike(t, l, names, []int{4, 0, 0, 0}, []string{"m", "n"}, []int{0, 4})
	checkAlike(t, []api.Dim{{N: 3}, {N: 65535}, {N: -1}}, names, []int{1, 2, 3, 4}, nil, nil)
	a := told(l, names, []int{4, 0, 0, 0})
	if a.same(told(l, names, []int{5, 0, 0, 0})) || a.same(told(l, names, []int{4, 0, 1, 0})) {
		t.Error("P4.1: what is named is not seen")
	}
}

// P4.1: all N near their bounds and between them, by themselves and with parameters.
func TestAllNumbers(t *testing.T) {
	names, vals := []string{"zero", "one", "w", "half", "most"}, []int{0, 1, 16, 32768, 65535}
	for n := -20; n < 65560; n++ {
		for _, name := range []string{"", "zero", "one", "w", "half", "most", "none"} {
			d := api.Dim{Name: name, N: n}
			want, wantErr := expected(d, names, vals)
			wantValue(t, d, names, vals, want, wantErr)
			want, wantErr = expectedWidth(d, names, vals)
			wantWidth(t, d, names, vals, want, wantErr)
		}
		if t.Failed() {
			return
		}
	}
}

// edges are numbers at which an answer changes; those from 0 to 65535 come first.
var edges = []int{0, 1, 2, 15, 16, 17, 32767, 32768, 65519, 65520, 65534, 65535,
	-1, -16, 65536, math.MaxInt, math.MaxInt - 65535, math.MinInt}

const rightEdges = 12

func madeParameters(r *rand.Rand) ([]string, []int) {
	pool := []string{"a", "b", "c", "n", "nn", ""}
	var names []string
	var vals []int
	for range r.Intn(7) {
		names, vals = append(names, pool[r.Intn(len(pool))]), append(vals, edges[r.Intn(rightEdges)])
	}
	return names, vals
}

func madeRow(r *rand.Rand, names []string) []api.Dim {
	var l []api.Dim
	for range r.Intn(5) {
		d := api.Dim{N: edges[r.Intn(6)]}
		if r.Intn(4) == 0 {
			d.N = edges[r.Intn(len(edges))]
		}
		if len(names) > 0 && r.Intn(3) > 0 {
			d.Name = names[r.Intn(len(names))]
		} else if r.Intn(6) == 0 {
			d.Name = "none"
		}
		l = append(l, d)
	}
	return l
}

func TestMadeRows(t *testing.T) {
	r := rand.New(rand.NewSource(1))
	for range 20000 {
		names, vals := madeParameters(r)
		l := madeRow(r, names)
		checkTold(t, l, names, vals)
		checkHangs(t, r, l, names, vals)
		if t.Failed() {
			return
		}
	}
}

// The rule P3: a row that was told is not changed by what is told later, and is none of those handed in.
func TestValuesAreNew(t *testing.T) {
	l, names, vals := []api.Dim{{Name: "a"}, {Name: "b"}}, []string{"a", "b"}, []int{1, 2}
	first, _ := dims.Values(l, names, vals)
	second, _ := dims.Values([]api.Dim{{N: 8}, {N: 9}}, names, vals)
	vals[0], vals[1] = 5, 6
	if !slices.Equal(first, []int{1, 2}) || !slices.Equal(second, []int{8, 9}) {
		t.Errorf("P3: %v, %v", first, second)
	}
	first[0], second[0] = 70, 70
	if third, _ := dims.Values(l, names, vals); !slices.Equal(third, []int{5, 6}) || vals[0] != 5 {
		t.Errorf("P3: %v, of %v", third, vals)
	}
}
