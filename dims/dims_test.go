package dims_test

import (
	"math"
	"slices"
	"testing"

	"proofmark/api"
	"proofmark/dims"
)

// given are parameters as most tests have them; n stands twice, and the first one counts.
var (
	givenNames = []string{"n", "zero", "most", "n", "w"}
	givenVals  = []int{4, 0, 65535, 9, 16}
)

func wantValue(t *testing.T, d api.Dim, names []string, vals []int, want int, wantErr api.Errno) {
	t.Helper()
	if n, e := dims.Value(d, names, vals); n != want || e != wantErr {
		t.Errorf("Value(%v, %q, %v) = %d, %d; want %d, %d", d, names, vals, n, e, want, wantErr)
	}
}

func wantWidth(t *testing.T, d api.Dim, names []string, vals []int, want int, wantErr api.Errno) {
	t.Helper()
	if n, e := dims.Width(d, names, vals); n != want || e != wantErr {
		t.Errorf("Width(%v, %q, %v) = %d, %d; want %d, %d", d, names, vals, n, e, want, wantErr)
	}
}

func wantValues(t *testing.T, l []api.Dim, want []int, wantErr api.Errno) {
	t.Helper()
	if got, e := dims.Values(l, givenNames, givenVals); !slices.Equal(got, want) || e != wantErr {
		t.Errorf("Values(%v) = %v, %d; want %v, %d", l, got, e, want, wantErr)
	}
}

// P4.1: the chapter's example.
func TestExample(t *testing.T) {
	d := api.Dim{Name: "n", N: 1}
	wantValue(t, d, []string{"n"}, []int{4}, 5, api.OK)
	wantWidth(t, d, []string{"n"}, []int{4}, 5, api.OK)
}

// P4.1, D1: N by itself, at its bounds and far beyond them.
func TestValueOfNumber(t *testing.T) {
	for _, n := range []int{0, 1, 7, 16, 17, 65534, 65535} {
		wantValue(t, api.Dim{N: n}, givenNames, givenVals, n, api.OK)
		wantValue(t, api.Dim{N: n}, nil, nil, n, api.OK)
	}
	for _, n := range []int{-1, -4, -65536, 65536, 65537, 1 << 31, 1 << 32, math.MaxInt, math.MinInt} {
		wantValue(t, api.Dim{N: n}, givenNames, givenVals, 0, api.ErrRange)
		wantValue(t, api.Dim{N: n}, nil, nil, 0, api.ErrRange)
	}
}

// P4.1, D1: a parameter, and N, at the bounds of their sum.
func TestValueOfSum(t *testing.T) {
	names, vals := givenNames, givenVals
	wantValue(t, api.Dim{Name: "n"}, names, vals, 4, api.OK)
	wantValue(t, api.Dim{Name: "zero"}, names, vals, 0, api.OK)
	wantValue(t, api.Dim{Name: "zero", N: 65535}, names, vals, 65535, api.OK)
	wantValue(t, api.Dim{Name: "most"}, names, vals, 65535, api.OK)
	wantValue(t, api.Dim{Name: "n", N: 65531}, names, vals, 65535, api.OK)
	wantValue(t, api.Dim{Name: "n", N: 65532}, names, vals, 0, api.ErrRange)
	wantValue(t, api.Dim{Name: "n", N: 65535}, names, vals, 0, api.ErrRange)
	wantValue(t, api.Dim{Name: "most", N: 1}, names, vals, 0, api.ErrRange)
	wantValue(t, api.Dim{Name: "most", N: 65535}, names, vals, 0, api.ErrRange)
	wantValue(t, api.Dim{Name: "zero", N: 65536}, names, vals, 0, api.ErrRange)
}

// P4.1, D1: an N that is out of range is an error even where the sum is not, or wraps round.
func TestValueOfWrongNumberAndParameter(t *testing.T) {
	for _, name := range []string{"n", "zero", "most"} {
		for _, n := range []int{-1, -4, 65536, math.MaxInt, math.MaxInt - 3, math.MinInt} {
			wantValue(t, api.Dim{Name: name, N: n}, givenNames, givenVals, 0, api.ErrRange)
			wantWidth(t, api.Dim{Name: name, N: n}, givenNames, givenVals, 0, api.ErrRange)
		}
	}
}

// P4.1, D1: of two parameters of one name the first counts, whichever is greater.
func TestFirstOfTwoParameters(t *testing.T) {
	names := []string{"a", "b", "a", "b", "a"}
	vals := []int{3, 65535, 65535, 0, 7}
	wantValue(t, api.Dim{Name: "a", N: 2}, names, vals, 5, api.OK)
	wantWidth(t, api.Dim{Name: "a", N: 2}, names, vals, 5, api.OK)
	wantValue(t, api.Dim{Name: "b"}, names, vals, 65535, api.OK)
	wantValue(t, api.Dim{Name: "b", N: 1}, names, vals, 0, api.ErrRange)
	wantWidth(t, api.Dim{Name: "b", N: 1}, names, vals, 0, api.ErrRange)
}

// P4.1, and the rule P2: a Name that no parameter has is told ahead of a number that is out of range.
func TestNoSuchParameter(t *testing.T) {
	for _, n := range []int{0, 5, 65535, -1, 65536, math.MaxInt, math.MinInt} {
		for _, name := range []string{"k", "N", "nn", " ", "mos", "n "} {
			d := api.Dim{Name: name, N: n}
			wantValue(t, d, givenNames, givenVals, 0, api.ErrParam)
			wantWidth(t, d, givenNames, givenVals, 0, api.ErrParam)
			wantValues(t, []api.Dim{d}, nil, api.ErrParam)
		}
		wantValue(t, api.Dim{Name: "n", N: n}, nil, nil, 0, api.ErrParam)
		wantWidth(t, api.Dim{Name: "n", N: n}, []string{}, []int{}, 0, api.ErrParam)
	}
}

// P4.1, D1: an empty Name names no parameter, not even one whose name is empty.
func TestEmptyName(t *testing.T) {
	names, vals := []string{"", "n"}, []int{100, 4}
	wantValue(t, api.Dim{N: 7}, names, vals, 7, api.OK)
	wantWidth(t, api.Dim{N: 7}, names, vals, 7, api.OK)
	wantValue(t, api.Dim{N: 65535}, names, vals, 65535, api.OK)
	wantValue(t, api.Dim{Name: "n", N: 7}, names, vals, 11, api.OK)
}

// P4.1, D2: widths at their bounds, by N, by a parameter, and by both.
func TestWidthBounds(t *testing.T) {
	for n := -2; n <= 20; n++ {
		want, wantErr := n, api.OK
		if n < 1 || n > 16 {
			want, wantErr = 0, api.ErrRange
		}
		wantWidth(t, api.Dim{N: n}, nil, nil, want, wantErr)
		wantWidth(t, api.Dim{Name: "zero", N: n}, givenNames, givenVals, want, wantErr)
		if n >= 0 {
			wantWidth(t, api.Dim{Name: "p"}, []string{"p"}, []int{n}, want, wantErr)
		}
		if n >= 4 {
			wantWidth(t, api.Dim{Name: "n", N: n - 4}, givenNames, givenVals, want, wantErr)
		}
	}
	wantWidth(t, api.Dim{Name: "w"}, givenNames, givenVals, 16, api.OK)
	wantWidth(t, api.Dim{Name: "w", N: 1}, givenNames, givenVals, 0, api.ErrRange)
	wantWidth(t, api.Dim{Name: "most"}, givenNames, givenVals, 0, api.ErrRange)
	wantWidth(t, api.Dim{N: 65535}, nil, nil, 0, api.ErrRange)
	wantWidth(t, api.Dim{N: 65536}, nil, nil, 0, api.ErrRange)
}

// P4.1, D3: each of a row, in order; of an empty row none, and OK.
func TestValuesOrdinary(t *testing.T) {
	wantValues(t, []api.Dim{{N: 2}, {Name: "n"}, {Name: "n", N: 3}, {}, {Name: "most"}, {N: 2}},
		[]int{2, 4, 7, 0, 65535, 2}, api.OK)
	wantValues(t, []api.Dim{{N: 17}}, []int{17}, api.OK)
	wantValues(t, nil, nil, api.OK)
	wantValues(t, []api.Dim{}, nil, api.OK)
	if l, e := dims.Values(nil, nil, nil); len(l) != 0 || e != api.OK {
		t.Errorf("Values of nothing = %v, %d", l, e)
	}
}

// P4.1, D3, and the rule P2: the first error of several, and nothing beside it, wherever it stands.
func TestValuesFirstError(t *testing.T) {
	good, none, far := api.Dim{N: 2}, api.Dim{Name: "k", N: -1}, api.Dim{Name: "most", N: 1}
	wantValues(t, []api.Dim{none}, nil, api.ErrParam)
	wantValues(t, []api.Dim{far}, nil, api.ErrRange)
	wantValues(t, []api.Dim{none, far}, nil, api.ErrParam)
	wantValues(t, []api.Dim{far, none}, nil, api.ErrRange)
	wantValues(t, []api.Dim{good, good, far, good, none}, nil, api.ErrRange)
	wantValues(t, []api.Dim{good, none, good, far, good}, nil, api.ErrParam)
	wantValues(t, []api.Dim{good, good, good, {N: -1}}, nil, api.ErrRange)
	wantValues(t, []api.Dim{good, good, good, none}, nil, api.ErrParam)
}

// The rule P1, and beyond it: of names and numbers that are not as many, or not in range, nothing is said, but nothing panics.
func TestNoPanicOfOtherParameters(t *testing.T) {
	for _, vals := range [][]int{nil, {1}, {1, 2, 3}, {-1, 65536}, {math.MaxInt, math.MinInt}} {
		for _, d := range []api.Dim{{}, {Name: "a"}, {Name: "b", N: 65535}, {Name: "b", N: -1}, {Name: "c"}} {
			dims.Value(d, []string{"a", "b"}, vals)
			dims.Width(d, []string{"a", "b"}, vals)
			dims.Values([]api.Dim{d, d}, []string{"a", "b"}, vals)
		}
	}
}
