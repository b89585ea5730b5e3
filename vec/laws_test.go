package vec_test

import (
	"math/rand"
	"slices"
	"testing"

	"proofmark/api"
	"proofmark/vec"
)

// width is that of the numbers of which laws are told.
type width int

func (w width) make(op, a, b int) int { return vec.Do(api.Node{Op: op, W: int(w)}, a, b, 0, int(w)) }
func (w width) add(a, b int) int      { return w.make(api.Add, a, b) }
func (w width) sub(a, b int) int      { return w.make(api.Sub, a, b) }
func (w width) mul(a, b int) int      { return w.make(api.Mul, a, b) }
func (w width) and(a, b int) int      { return w.make(api.And, a, b) }
func (w width) or(a, b int) int       { return w.make(api.Or, a, b) }
func (w width) xor(a, b int) int      { return w.make(api.Xor, a, b) }
func (w width) inv(a int) int         { return w.make(api.Inv, a, 0) }

func (w width) told(op, a, b int) bool {
	return vec.Do(api.Node{Op: op, W: 1, Lo: int(w)}, a, b, 0, int(w)) == 1
}
func (w width) eq(a, b int) bool { return w.told(api.Eq, a, b) }
func (w width) ne(a, b int) bool { return w.told(api.Ne, a, b) }
func (w width) lt(a, b int) bool { return w.told(api.Lt, a, b) }
func (w width) le(a, b int) bool { return w.told(api.Le, a, b) }

func (w width) slice(a, hi, lo int) int {
	return vec.Do(api.Node{Op: api.Slice, W: hi - lo + 1, N: hi, Lo: lo}, a, 0, 0, 0)
}

// eachThree calls f with all of three small numbers, and with some of all other widths.
func eachThree(f func(w width, a, b, c int)) {
	r := rand.New(rand.NewSource(6))
	for w := 1; w <= 16; w++ {
		task{wa: w, wb: w, wc: w}.each(r, 4, func(a, b, c int) { f(width(w), a, b, c) })
	}
}

// law tells that one does not hold.
func law(t *testing.T, what string, holds bool, w width, l ...int) {
	t.Helper()
	if !holds {
		t.Errorf("P8.3: %s does not hold of %v, of %d bits", what, l, w)
	}
}

// P8.3: sums and differences.
func TestSums(t *testing.T) {
	eachThree(func(w width, a, b, c int) {
		law(t, "a+b = b+a", w.add(a, b) == w.add(b, a), w, a, b)
		law(t, "(a+b)+c = a+(b+c)", w.add(w.add(a, b), c) == w.add(a, w.add(b, c)), w, a, b, c)
		law(t, "a+0 = a", w.add(a, 0) == a && w.sub(a, 0) == a, w, a)
		law(t, "a-a = 0", w.sub(a, a) == 0, w, a)
		law(t, "(a+b)-b = a", w.sub(w.add(a, b), b) == a && w.add(w.sub(a, b), b) == a, w, a, b)
		law(t, "a-b = a+~b+1", w.sub(a, b) == w.add(w.add(a, w.inv(b)), 1), w, a, b)
		law(t, "a+~a is all bits", w.add(a, w.inv(a)) == most(int(w)), w, a)
		law(t, "(a-b)-c = a-(b+c)", w.sub(w.sub(a, b), c) == w.sub(a, w.add(b, c)), w, a, b, c)
		law(t, "a+b = (a^b)+2(a&b)", w.add(a, b) == w.add(w.xor(a, b), w.add(w.and(a, b), w.and(a, b))), w, a, b)
	})
}

// P8.3: a sum, and a difference, is that of numbers, or, if it would pass the width, that and 2^w.
func TestRounds(t *testing.T) {
	eachThree(func(w width, a, b, _ int) {
		round := 1 << w
		if a+b < round {
			law(t, "a+b", w.add(a, b) == a+b && w.le(a, w.add(a, b)), w, a, b)
		} else {
			law(t, "a+b, round", w.add(a, b) == a+b-round && w.lt(w.add(a, b), a), w, a, b)
		}
		if a >= b {
			law(t, "a-b", w.sub(a, b) == a-b && w.le(w.sub(a, b), a), w, a, b)
		} else {
			law(t, "a-b, round", w.sub(a, b) == a-b+round && w.lt(a, w.sub(a, b)), w, a, b)
		}
	})
}

// P8.3: products.
func TestProducts(t *testing.T) {
	eachThree(func(w width, a, b, c int) {
		law(t, "ab = ba", w.mul(a, b) == w.mul(b, a), w, a, b)
		law(t, "(ab)c = a(bc)", w.mul(w.mul(a, b), c) == w.mul(a, w.mul(b, c)), w, a, b, c)
		law(t, "a(b+c) = ab+ac", w.mul(a, w.add(b, c)) == w.add(w.mul(a, b), w.mul(a, c)), w, a, b, c)
		law(t, "a(b-c) = ab-ac", w.mul(a, w.sub(b, c)) == w.sub(w.mul(a, b), w.mul(a, c)), w, a, b, c)
		law(t, "1a = a", w.mul(1, a) == a && w.mul(a, 0) == 0, w, a)
		law(t, "-1a = 0-a", w.mul(most(int(w)), a) == w.sub(0, a), w, a)
	})
}

// P8.3: orders.
func TestOrders(t *testing.T) {
	eachThree(func(w width, a, b, c int) {
		law(t, "one of a<b, a=b, b<a", one(w.lt(a, b))+one(w.eq(a, b))+one(w.lt(b, a)) == 1, w, a, b)
		law(t, "as numbers are", w.lt(a, b) == (a < b) && w.eq(a, b) == (a == b), w, a, b)
		law(t, "a<=b: a<b or a=b", w.le(a, b) == (w.lt(a, b) || w.eq(a, b)), w, a, b)
		law(t, "a!=b: not a=b", w.ne(a, b) != w.eq(a, b), w, a, b)
		law(t, "a<=b: not b<a", w.le(a, b) != w.lt(b, a), w, a, b)
		law(t, "a<b, b<c: a<c", !w.lt(a, b) || !w.lt(b, c) || w.lt(a, c), w, a, b, c)
		law(t, "a<b: ~b<~a", w.lt(a, b) == w.lt(w.inv(b), w.inv(a)), w, a, b)
		law(t, "0<=a", w.le(0, a) && w.le(a, most(int(w))), w, a)
		law(t, "a=b: a^b is 0", w.eq(a, b) == (w.xor(a, b) == 0), w, a, b)
	})
}

// P8.3: bits, all of them at once.
func TestBitLaws(t *testing.T) {
	eachThree(func(w width, a, b, c int) {
		law(t, "~~a = a", w.inv(w.inv(a)) == a, w, a)
		law(t, "~(a&b) = ~a|~b", w.inv(w.and(a, b)) == w.or(w.inv(a), w.inv(b)), w, a, b)
		law(t, "a&(b|c)", w.and(a, w.or(b, c)) == w.or(w.and(a, b), w.and(a, c)), w, a, b, c)
		law(t, "a|(b&c)", w.or(a, w.and(b, c)) == w.and(w.or(a, b), w.or(a, c)), w, a, b, c)
		law(t, "a^b", w.xor(a, b) == w.and(w.or(a, b), w.inv(w.and(a, b))), w, a, b)
		law(t, "(a^b)^b = a", w.xor(w.xor(a, b), b) == a, w, a, b)
		law(t, "a&~a = 0", w.and(a, w.inv(a)) == 0 && w.or(a, w.inv(a)) == most(int(w)), w, a)
		law(t, "some bit", w.told(api.RedOr, a, 0) == w.ne(a, 0), w, a)
		law(t, "all bits", w.told(api.RedAnd, a, 0) == w.eq(w.inv(a), 0), w, a)
	})
}

// P8.3: bits, one by one.
func TestEachBit(t *testing.T) {
	eachThree(func(w width, a, b, _ int) {
		x, y := vec.Bits(a, int(w)), vec.Bits(b, int(w))
		and, or, xor, inv := vec.Bits(w.and(a, b), int(w)), vec.Bits(w.or(a, b), int(w)), vec.Bits(w.xor(a, b), int(w)), vec.Bits(w.inv(a), int(w))
		for i := range int(w) {
			law(t, "a bit of two", and[i] == (x[i] && y[i]) && or[i] == (x[i] || y[i]) && xor[i] == (x[i] != y[i]), w, a, b, i)
			law(t, "a bit turned", inv[i] != x[i], w, a, i)
			law(t, "a bit by itself", w.slice(a, i, i) == one(x[i]), w, a, i)
		}
		law(t, "some bit", w.told(api.RedOr, a, 0) == slices.Contains(x, true), w, a)
		law(t, "all bits", w.told(api.RedAnd, a, 0) == !slices.Contains(x, false), w, a)
		slices.Reverse(x)
		slices.Reverse(y)
		law(t, "the highest bit that is another one tells the order", w.lt(a, b) == before(x, y), w, a, b)
	})
}

func before(x, y []bool) bool {
	for i := range x {
		if x[i] != y[i] {
			return y[i]
		}
	}
	return false
}

// P8.3: what is put together is cut again, and its bits are those of both.
func TestParts(t *testing.T) {
	eachThree(func(w width, a, _, _ int) {
		whole := vec.Bits(a, int(w))
		for wb := 1; wb < int(w); wb++ {
			upper, lower := w.slice(a, int(w)-1, wb), w.slice(a, wb-1, 0)
			law(t, "upper, lower", vec.Do(api.Node{Op: api.Cat, W: int(w)}, upper, lower, 0, wb) == a, w, a, wb)
			law(t, "bits", slices.Equal(whole, append(vec.Bits(lower, wb), vec.Bits(upper, int(w)-wb)...)), w, a, wb)
			for lo := range wb {
				law(t, "some bits", slices.Equal(vec.Bits(w.slice(a, wb, lo), wb-lo+1), whole[lo:wb+1]), w, a, wb, lo)
			}
		}
		law(t, "all of it", w.slice(a, int(w)-1, 0) == a, w, a)
	})
}

// P8.3: a Mux is what its bits choose.
func TestChoices(t *testing.T) {
	eachThree(func(w width, a, b, _ int) {
		n := api.Node{Op: api.Mux, W: int(w)}
		for which := range 2 {
			all := w.sub(0, which)
			want := w.or(w.and(all, a), w.and(w.inv(all), b))
			law(t, "a choice", vec.Do(n, which, a, b, int(w)) == want, w, which, a, b)
			law(t, "a choice turned", vec.Do(n, 1-which, b, a, int(w)) == want, w, which, a, b)
		}
	})
}
