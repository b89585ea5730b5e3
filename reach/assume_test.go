package reach_test

import (
	"testing"

	"proofmark/api"
)

// P12.1: an Assume that makes cycles illegal: by the state, by the row, and by both. What is only met by such is not reached.
func TestIllegalCycles(t *testing.T) {
	byState := counter(4, 9)
	b := builder{byState}
	b.prop(api.Assume, b.tells(api.Ne, 0, b.lit(4, 6)))
	wantProved(t, "never behind 6", b.Net, 0, 6)
	wantMany(t, "up to 6, which is reached, and goes no further", b.Net, 7)

	row, by, cell := jumper(4)
	row.prop(api.Assume, row.of(api.Or, row.is(by, 0), row.is(by, 4)))
	row.prop(api.Cover, row.is(cell, 8))
	row.prop(api.Cover, row.is(cell, 9))
	wantViolated(t, "by fours", row.Net, 1, rows(4, 4, 0)...)
	wantProved(t, "by fours", row.Net, 2, 3)
	wantMany(t, "by fours", row.Net, 4)

	both, by, cell := jumper(4)
	both.prop(api.Assume, both.tells(api.Le, by, cell))
	both.prop(api.Cover, both.is(cell, 1))
	wantProved(t, "0 is added to 0 alone", both.Net, 1, 0)
	wantMany(t, "0 is added to 0 alone", both.Net, 1)
	both.Cells[0].Reset = 3
	wantViolated(t, "3, 5, 9 and round", both.Net, 1, rows(2, 4, 8, 0)...)
}

// P12.1, L2: what is hit in a cycle that is illegal is not hit; another row, or another trace, may hit it.
func TestHitInIllegalCycle(t *testing.T) {
	for _, ahead := range []bool{false, true} {
		b, by, cell := jumper(3)
		allowed := b.tells(api.Lt, by, b.lit(3, 4))
		p := 0
		if ahead {
			b.prop(api.Assume, allowed)
			p = 1
		}
		b.prop(api.Cover, b.tells(api.Le, b.lit(3, 4), by))
		b.prop(api.Cover, b.is(by, 3))
		b.prop(api.Cover, b.is(cell, 5))
		b.prop(api.Assert, b.tells(api.Lt, by, b.lit(3, 2)))
		if !ahead {
			b.prop(api.Assume, allowed)
		}
		wantProved(t, "only by rows that are illegal", b.Net, p, 3)
		wantViolated(t, "by one that is legal", b.Net, p+1, rows(3)...)
		wantViolated(t, "one more cycle", b.Net, p+2, rows(2, 3, 0)...)
		wantViolated(t, "an Assert", b.Net, p+3, rows(2)...)
	}
}

// P12.1: the last cycle must be legal too: a state that is reached may be one in which nothing is hit.
func TestLastCycleIllegal(t *testing.T) {
	b := builder{counter(3, 5)}
	b.prop(api.Assume, b.tells(api.Ne, 0, b.lit(3, 5)))
	wantProved(t, "5 is reached, and illegal", b.Net, 0, 5)
	wantMany(t, "5 is reached", b.Net, 6)
}

// P12.1: a first cycle that is illegal with each row: the first state is reached, in no steps, and nothing else.
func TestFirstCycleIllegal(t *testing.T) {
	for _, held := range []int{0, 1} {
		b, _, cell := jumper(4)
		b.Cells[0].Reset = 3
		b.prop(api.Assume, b.tells(api.Ne, cell, b.lit(4, 3+1-held)))
		b.prop(api.Cover, b.is(cell, 3))
		b.prop(api.Assert, b.tells(api.Ne, cell, b.lit(4, 3)))
		b.prop(api.Cover, b.lit(1, 1))
		b.prop(api.Assert, b.lit(1, 0))
		b.prop(api.Cover, b.is(cell, 9))
		if held == 1 {
			wantMany(t, "nothing is legal", b.Net, 1)
			for p := 1; p < 6; p++ {
				wantProved(t, "nothing is legal", b.Net, p, 0)
			}
			continue
		}
		wantMany(t, "all is legal but what is behind 4", b.Net, 16)
		for p := 1; p < 5; p++ {
			wantViolated(t, "at once", b.Net, p, rows(0)...)
		}
		wantViolated(t, "later", b.Net, 5, rows(6, 0)...)
	}
	// Without cells and pins too, where there is one cycle that may be illegal.
	var b builder
	b.prop(api.Assume, b.lit(1, 0))
	b.prop(api.Cover, b.lit(1, 1))
	b.prop(api.Assert, b.lit(1, 0))
	wantMany(t, "one state", b.Net, 1)
	wantProved(t, "a Cover", b.Net, 1, 0)
	wantProved(t, "an Assert", b.Net, 2, 0)
}

// P12.1: of several assumptions each counts, wherever it stands; Asserts that are false, and Covers, make nothing illegal.
func TestAllAssumesCount(t *testing.T) {
	for which := range 4 {
		var b builder
		var ins [3]int
		for i := range ins {
			ins[i] = b.in("i", 1)
		}
		b.prop(api.Assume, ins[0])
		b.prop(api.Cover, b.lit(1, 0))
		b.prop(api.Assume, ins[1])
		b.prop(api.Assert, b.lit(1, 0))
		b.prop(api.Cover, b.lit(1, 1))
		b.prop(api.Assume, ins[2])
		want := []int{1, 1, 1}
		for i := range b.Props {
			// One of them is no Assume any more.
			if b.Props[i].Kind == api.Assume && b.Props[i].Node == which {
				b.Props[i].Kind = api.Cover
				want[which] = 0
			}
		}
		wantViolated(t, "an Assert", b.Net, 3, want)
		wantViolated(t, "a Cover", b.Net, 4, want)
		wantProved(t, "a Cover that is never", b.Net, 1, 0)
	}
}
