package vec_test

import (
	"math"
	"math/rand"
	"slices"
	"testing"

	"proofmark/api"
	"proofmark/vec"
)

// task is a node, and how wide its operands are; 0 of one that it does not have.
type task struct {
	n          api.Node
	wa, wb, wc int
}

// tasks are all nodes of one W, of all widths that their operands may have.
func tasks(w int) []task {
	l := []task{
		{api.Node{Op: api.Lit, W: w}, 0, 0, 0}, {api.Node{Op: api.Lit, W: w, N: most(w)}, 0, 0, 0}, {api.Node{Op: api.Lit, W: w, N: most(w) / 3}, 0, 0, 0},
		{api.Node{Op: api.Inv, W: w}, w, 0, 0}, {api.Node{Op: api.Mux, W: w}, 1, w, w},
		{api.Node{Op: api.RedOr, W: 1, Lo: w}, w, 0, 0}, {api.Node{Op: api.RedAnd, W: 1, Lo: w}, w, 0, 0},
	}
	for _, op := range []int{api.And, api.Or, api.Xor, api.Add, api.Sub, api.Mul} {
		l = append(l, task{api.Node{Op: op, W: w}, w, w, 0})
	}
	for _, op := range []int{api.Eq, api.Ne, api.Lt, api.Le} {
		l = append(l, task{api.Node{Op: op, W: 1, Lo: w}, w, w, 0})
	}
	for wb := 1; wb < w; wb++ {
		l = append(l, task{api.Node{Op: api.Cat, W: w}, w - wb, wb, 0})
	}
	for hi := w - 1; hi < 16; hi++ {
		for wa := hi + 1; wa <= 16; wa++ {
			l = append(l, task{api.Node{Op: api.Slice, W: w, N: hi, Lo: hi - w + 1}, wa, 0, 0})
		}
	}
	return l
}

// numbers are all of so many bits, if they are few, or those at the edges, and some others; 0 of no operand.
func numbers(r *rand.Rand, w, few int) []int {
	if w == 0 {
		return []int{0}
	}
	var l []int
	if w <= few {
		for n := range 1 << w {
			l = append(l, n)
		}
		return l
	}
	l = []int{0, 1, most(w-1) - 1, most(w - 1), most(w-1) + 1, most(w) - 1, most(w)}
	for range 8 {
		l = append(l, r.Intn(1<<w))
	}
	return l
}

// each calls f with numbers for all operands of a node.
func (k task) each(r *rand.Rand, few int, f func(a, b, c int)) {
	for _, a := range numbers(r, k.wa, few) {
		for _, b := range numbers(r, k.wb, few) {
			for _, c := range numbers(r, k.wc, few) {
				f(a, b, c)
			}
		}
	}
}

// checkMade looks at P8.1 and P8.2, and at the rule P3, of one node and its operands.
func checkMade(t *testing.T, k task, a, b, c int) {
	t.Helper()
	want := read(k.n, a, b, c, k.wb)
	for range 2 {
		got := vec.Do(k.n, a, b, c, k.wb)
		if got != want {
			t.Errorf("P8.1: Do(%+v, %d, %d, %d, %d) = %d; want %d", k.n, a, b, c, k.wb, got, want)
		}
		if got < 0 || got >= 1<<k.n.W {
			t.Errorf("P8.2: Do(%+v, %d, %d, %d, %d) = %d", k.n, a, b, c, k.wb, got)
		}
	}
}

// P8.1, P8.2: all nodes of all widths, of all small operands, and of others at the edges, and between them.
func TestMade(t *testing.T) {
	r := rand.New(rand.NewSource(1))
	met := map[int]int{}
	for w := 1; w <= 16; w++ {
		for _, k := range tasks(w) {
			met[k.n.Op]++
			k.each(r, 5, func(a, b, c int) { checkMade(t, k, a, b, c) })
		}
		if t.Failed() {
			return
		}
	}
	for _, op := range allOps {
		if met[op] < 16-1 {
			t.Errorf("Op %d was asked %d times", op, met[op])
		}
	}
}

// P8.1, P8.2: all pairs of seven bits.
func TestAllPairs(t *testing.T) {
	for _, k := range tasks(7) {
		if k.wb > 0 && k.wc == 0 {
			k.each(nil, 7, func(a, b, c int) { checkMade(t, k, a, b, c) })
		}
	}
}

// P8.1, P8.2: all numbers of 16 bits, by themselves.
func TestAllNumbers(t *testing.T) {
	for _, k := range tasks(16) {
		if k.wb == 0 && k.wa > 0 {
			k.each(nil, 16, func(a, b, c int) { checkMade(t, k, a, b, c) })
		}
	}
	for n := range 1 << 16 {
		checkMade(t, task{n: api.Node{Op: api.Lit, W: 16, N: n}}, 0, 0, 0)
	}
}

// P8.1, H1: operands that a node does not have do not count, nor does the width of b, but of Cat, nor where operands stand.
func TestWhatDoesNotCount(t *testing.T) {
	r := rand.New(rand.NewSource(2))
	other := func(w, n int) int {
		if w > 0 {
			return n
		}
		return []int{math.MinInt, -1, 0, 1, 65535, 65536, math.MaxInt}[r.Intn(7)]
	}
	for w := 1; w <= 16; w++ {
		for _, k := range tasks(w) {
			k.each(r, 2, func(a, b, c int) {
				want := read(k.n, a, b, c, k.wb)
				n, wb := k.n, other(0, 0)
				n.A, n.B, n.C = other(0, 0), other(0, 0), other(0, 0)
				if n.Op == api.Cat {
					wb = k.wb
				}
				wantDo(t, n, other(k.wa, a), other(k.wb, b), other(k.wc, c), wb, want)
			})
		}
	}
}

// P8.1, H1: what a node has that its Op does not speak of does not count.
func TestFieldsThatDoNotCount(t *testing.T) {
	for w := 1; w <= 16; w++ {
		for _, k := range tasks(w) {
			n := k.n
			switch n.Op {
			case api.Slice:
				continue
			case api.Lit:
				n.Lo = 7
			case api.RedOr, api.RedAnd, api.Eq, api.Ne, api.Lt, api.Le:
				n.N = 1
			default:
				n.N, n.Lo = 1, 3
			}
			k.each(rand.New(rand.NewSource(3)), 2, func(a, b, c int) {
				wantDo(t, n, a, b, c, k.wb, read(k.n, a, b, c, k.wb))
			})
		}
	}
}

// The rule P3: whatever was asked ahead, and in whatever order, a node makes the same.
func TestMadeInAnyOrder(t *testing.T) {
	r := rand.New(rand.NewSource(4))
	var l []task
	for w := 1; w <= 16; w++ {
		l = append(l, tasks(w)...)
	}
	for range 5 {
		r.Shuffle(len(l), func(i, j int) { l[i], l[j] = l[j], l[i] })
		for _, k := range l {
			a, b, c := r.Intn(1<<k.wa), r.Intn(1<<k.wb), r.Intn(1<<k.wc)
			checkMade(t, k, a, b, c)
		}
	}
}

// P8.1, H2: Bits and Num lead to one another, and tell what digits tell, of all widths.
func TestBitsAndNum(t *testing.T) {
	r := rand.New(rand.NewSource(5))
	for w := range 33 {
		l := []int{0, vec.Mask(w), vec.Mask(w) / 2, vec.Mask(w) / 3}
		for range 50 {
			l = append(l, int(r.Int63())&vec.Mask(w))
		}
		for i := range w {
			l = append(l, 1<<i, vec.Mask(w)-1<<i)
		}
		for _, n := range l {
			wantBits(t, n, w, readBits(n, w)...)
		}
	}
}

func readBits(n, w int) []bool {
	if w == 0 {
		return nil
	}
	var l []bool
	for _, digit := range digits(n, w) {
		l = append(l, digit == '1')
	}
	slices.Reverse(l)
	return l
}

// P8.1, H2: all rows of at most twelve bits have a number of their own, from 0 on.
func TestAllRows(t *testing.T) {
	for w := range 13 {
		for n := range 1 << w {
			wantBits(t, n, w, readBits(n, w)...)
		}
		if vec.Mask(w) != 1<<w-1 {
			t.Errorf("Mask(%d) = %d", w, vec.Mask(w))
		}
	}
}
