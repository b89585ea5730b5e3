package reach_test

import (
	"slices"
	"testing"

	"proofmark/api"
	"proofmark/net"
	"proofmark/reach"
	"proofmark/sim"
)

// alike holds verdicts against each other; an empty row is like none.
func alike(a, b api.Verdict) bool {
	return a.Kind == b.Kind && a.K == b.K && slices.EqualFunc(a.Trace, b.Trace, slices.Equal[[]int]) && slices.EqualFunc(a.Inv, b.Inv, slices.Equal[[]int])
}

func wantVerdict(t *testing.T, what string, n api.Net, p int, want api.Verdict) {
	t.Helper()
	if !net.Right(n) {
		t.Errorf("%s: the net is not right", what)
	}
	if got, err := reach.Tell(n, p); err != api.OK || !alike(got, want) {
		t.Errorf("%s: Tell of %d is %+v, %v; want %+v", what, p, got, err, want)
	}
}

// wantViolated is of a property that is hit behind these rows of one pin; and sim says so too.
func wantViolated(t *testing.T, what string, n api.Net, p int, trace ...[]int) {
	t.Helper()
	wantVerdict(t, what, n, p, api.Verdict{Kind: api.Violated, K: len(trace), Trace: trace})
	if k, ok := sim.Hit(n, p, trace); !ok || k != len(trace)-1 {
		t.Errorf("%s: sim.Hit of %d tells %d, %t", what, p, k, ok)
	}
}

func wantProved(t *testing.T, what string, n api.Net, p, steps int) {
	t.Helper()
	wantVerdict(t, what, n, p, api.Verdict{Kind: api.Proved, K: steps})
}

func wantUndone(t *testing.T, what string, n api.Net, p int) {
	t.Helper()
	wantVerdict(t, what, n, p, api.Verdict{Kind: api.Undone, K: 64})
}

// wantError is of an answer of which all but the error is nothing.
func wantError(t *testing.T, what string, n api.Net, p int, want api.Errno) {
	t.Helper()
	if got, err := reach.Tell(n, p); err != want || !alike(got, api.Verdict{}) {
		t.Errorf("%s: Tell of %d is %+v, %v; want %v", what, p, got, err, want)
	}
}

func wantMany(t *testing.T, what string, n api.Net, want int) {
	t.Helper()
	if got, err := reach.Many(n); err != api.OK || got != want {
		t.Errorf("%s: Many is %d, %v; want %d", what, got, err, want)
	}
}

// rows are those of one pin.
func rows(l ...int) [][]int {
	var trace [][]int
	for _, x := range l {
		trace = append(trace, []int{x})
	}
	return trace
}

// repeated are so many rows that are alike.
func repeated(many int, row ...int) [][]int {
	var trace [][]int
	for range many {
		trace = append(trace, slices.Clone(row))
	}
	return trace
}

// counter has a cell of so many bits, that is one more each time, covered at a number; it has no pins.
func counter(w, at int) api.Net {
	var b builder
	cell := b.cell("n", w, 0)
	b.becomes(cell, b.of(api.Add, cell, b.lit(w, 1)))
	b.prop(api.Cover, b.is(cell, at))
	return b.Net
}

// jumper has a cell of so many bits, to which its input of as many bits is added, as builder and its two nodes.
func jumper(w int) (*builder, int, int) {
	var b builder
	by := b.in("by", w)
	cell := b.cell("n", w, 0)
	b.becomes(cell, b.of(api.Add, cell, by))
	return &b, by, cell
}

// P12.1: the chapter's example.
func TestExample(t *testing.T) {
	wantViolated(t, "a counter", counter(4, 3), 0, repeated(4)...)
}

// P12.1, L2: a Cover and an Assert that are hit at the first cycle, later, and never.
func TestWhenItIsHit(t *testing.T) {
	var b builder
	cell := b.cell("n", 3, 2)
	b.becomes(cell, b.mux(b.is(cell, 6), b.lit(3, 3), b.of(api.Add, cell, b.lit(3, 1))))
	for at := range 8 {
		is := b.is(cell, at)
		b.prop(api.Cover, is)
		b.prop(api.Assert, b.inv(is))
	}
	// It is 2, 3, 4, 5, 6, 3, 4 ..., and never 0, 1 or 7.
	for at := range 8 {
		for p := 2 * at; p < 2*at+2; p++ {
			if at >= 2 && at <= 6 {
				wantViolated(t, "it is met", b.Net, p, repeated(at-1)...)
			} else {
				wantProved(t, "it is never met", b.Net, p, 4)
			}
		}
	}
	wantMany(t, "five", b.Net, 5)
}

// P12.1, L2: an Assert is hit where it is 0, a Cover where it is 1.
func TestKinds(t *testing.T) {
	for is := range 2 {
		var b builder
		node := b.lit(1, is)
		b.prop(api.Assert, node)
		b.prop(api.Cover, node)
		wantProved(t, "what never is", b.Net, 1-is, 0)
		wantViolated(t, "what is at once", b.Net, is, nil)
	}
}

// P12.1, L2: what hangs on inputs alone is hit at the first cycle, by the first row that does.
func TestInputsAlone(t *testing.T) {
	var b builder
	x, y := b.in("x", 3), b.in("y", 3)
	sum := b.of(api.Add, x, y)
	for number := range 8 {
		b.prop(api.Cover, b.is(sum, number))
	}
	b.prop(api.Cover, b.tells(api.Lt, b.lit(3, 5), x))
	b.prop(api.Cover, b.tells(api.Lt, y, x))
	for number := range 8 {
		wantViolated(t, "a sum", b.Net, number, []int{0, number})
	}
	wantViolated(t, "above 5", b.Net, 8, []int{6, 0})
	wantViolated(t, "y below x", b.Net, 9, []int{1, 0})
	wantMany(t, "no cells", b.Net, 1)
}

// P12.1, L2: the least of several traces that are as short: the first cycle counts most, and in a row the first pin.
func TestLeastTrace(t *testing.T) {
	b, _, cell := jumper(4)
	for at := range 16 {
		b.prop(api.Cover, b.is(cell, at))
	}
	wantViolated(t, "at once", b.Net, 0, rows(0)...)
	for at := 1; at < 16; at++ {
		wantViolated(t, "by one row of many", b.Net, at, []int{at}, []int{0})
	}
	// Never more than 5 at once: the most comes last.
	short, by, cell := jumper(4)
	short.prop(api.Assume, short.tells(api.Le, by, short.lit(4, 5)))
	short.prop(api.Cover, short.is(cell, 7))
	short.prop(api.Cover, short.is(cell, 10))
	short.prop(api.Cover, short.is(cell, 13))
	wantViolated(t, "2 and 5", short.Net, 1, rows(2, 5, 0)...)
	wantViolated(t, "5 and 5", short.Net, 2, rows(5, 5, 0)...)
	wantViolated(t, "3, 5 and 5", short.Net, 3, rows(3, 5, 5, 0)...)
}

// P12.1, L2: which of two pins stands first counts, and not how wide they are, nor where their names stand.
func TestFirstPinFirst(t *testing.T) {
	for _, widths := range [][2]int{{2, 2}, {2, 4}, {4, 2}} {
		var b builder
		x, y := b.in("z", widths[0]), b.in("a", widths[1])
		cell := b.cell("n", 1, 0)
		// Either of them sets it; that both of them do is no less.
		b.becomes(cell, b.of(api.Or, cell, b.of(api.Or, b.is(x, 1), b.is(y, 2))))
		b.prop(api.Cover, cell)
		wantViolated(t, "the last pin goes first", b.Net, 0, []int{0, 2}, []int{0, 0})
		b.prop(api.Assume, b.tells(api.Ne, y, b.lit(widths[1], 2)))
		wantViolated(t, "the first pin alone", b.Net, 0, []int{1, 0}, []int{0, 0})
	}
}

// P12.1, L2: a trace that is least at its first cycle is told, though it is greater behind.
func TestFirstCycleFirst(t *testing.T) {
	var b builder
	in := b.in("i", 2)
	a, c := b.cell("a", 2, 0), b.cell("c", 2, 0)
	b.becomes(a, in)
	b.becomes(c, a)
	sum := b.of(api.Add, a, c)
	b.prop(api.Cover, b.of(api.And, b.is(sum, 3), b.inv(b.is(in, 0))))
	b.prop(api.Cover, b.of(api.And, b.is(sum, 3), b.tells(api.Lt, b.lit(2, 0), c)))
	wantViolated(t, "3 at the second cycle", b.Net, 0, rows(3, 1)...)
	// 0 and 3 would be least, but c must not be 0.
	wantViolated(t, "1 and 2", b.Net, 1, rows(1, 2, 0)...)
}

// P12.1, L2: one whose shortest trace has 63 cycles, 64, 65 and more: the last ones are undone, and tell no trace.
func TestSixtyFour(t *testing.T) {
	for _, at := range []int{0, 1, 30, 61, 62, 63} {
		wantViolated(t, "64 cycles at most", counter(7, at), 0, repeated(at+1)...)
	}
	for _, at := range []int{64, 65, 66, 100, 127} {
		wantUndone(t, "more than 64 cycles", counter(7, at), 0)
	}
	wantUndone(t, "many cycles", counter(12, 4095), 0)
	for _, c := range []struct{ by, at int }{{1, 63}, {1, 64}, {2, 126}, {2, 127}, {2, 128}, {2, 129}} {
		b, by, cell := jumper(8)
		b.prop(api.Assume, b.tells(api.Le, by, b.lit(8, c.by)))
		b.prop(api.Cover, b.is(cell, c.at))
		if k := (c.at+c.by-1)/c.by + 1; k > 64 {
			wantUndone(t, "more than 64 cycles", b.Net, 1)
		} else if c.at%c.by == 0 {
			wantViolated(t, "64 cycles", b.Net, 1, append(repeated(k-1, c.by), []int{0})...)
		}
	}
}

// P12.1, L2: one that is never hit though states are reached in more than 64 steps is proved.
func TestManySteps(t *testing.T) {
	for _, end := range []int{62, 63, 64, 65, 100, 126} {
		var b builder
		cell := b.cell("n", 7, 0)
		b.becomes(cell, b.mux(b.is(cell, end), cell, b.of(api.Add, cell, b.lit(7, 1))))
		b.prop(api.Cover, b.is(cell, 127))
		b.prop(api.Assert, b.tells(api.Ne, cell, b.lit(7, end+1)))
		wantProved(t, "never beyond the end", b.Net, 0, end)
		wantProved(t, "never beyond the end", b.Net, 1, end)
		wantMany(t, "up to the end", b.Net, end+1)
	}
	n := counter(12, 0)
	n.Props[0].Kind = api.Assert
	n.Nodes[n.Props[0].Node].Op = api.Ne
	n.Cells[0].Reset = 1
	wantUndone(t, "4095 cycles", n, 0)
	wantMany(t, "all", n, 4096)
	n.Props = append(n.Props, api.Prop{Kind: api.Cover, Node: len(n.Nodes)})
	n.Nodes = append(n.Nodes, api.Node{Op: api.Lit, W: 1})
	wantProved(t, "never", n, 1, 4095)
}

// P12.1, L2, L3: how many states are reached, and in how many steps at most, by the fewest cycles.
func TestHowManyStates(t *testing.T) {
	for w := 1; w <= 6; w++ {
		never := counter(w, 0)
		never.Props[0] = api.Prop{Kind: api.Assert, Node: len(never.Nodes)}
		never.Nodes = append(never.Nodes, api.Node{Op: api.Lit, W: 1, N: 1})
		wantProved(t, "one by one", never, 0, most(w))
		wantMany(t, "one by one", never, 1<<w)
		// One that jumps anywhere is there at once, though it may go on step by step.
		b, _, _ := jumper(w)
		b.prop(api.Cover, b.lit(1, 0))
		wantProved(t, "at once", b.Net, 0, 1)
		wantMany(t, "at once", b.Net, 1<<w)
	}
	var b builder
	by := b.in("by", 2)
	cell := b.cell("n", 4, 0)
	b.becomes(cell, b.of(api.Add, cell, b.add(api.Node{Op: api.Cat, W: 4, A: b.lit(2, 0), B: by})))
	b.prop(api.Cover, b.lit(1, 0))
	wantProved(t, "by threes", b.Net, 0, 5)
	wantMany(t, "by threes", b.Net, 16)
	b.prop(api.Assume, b.tells(api.Ne, cell, b.lit(4, 11)))
	b.prop(api.Assume, b.tells(api.Ne, cell, b.lit(4, 10)))
	b.prop(api.Assume, b.tells(api.Ne, cell, b.lit(4, 12)))
	wantProved(t, "held back at 10 to 12", b.Net, 0, 4)
	wantMany(t, "held back at 10 to 12", b.Net, 13)
}
