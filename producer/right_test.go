package producer

import (
	"math"
	"slices"
	"testing"

	"bordereau/api"
)

// rightIs fails the test unless Right of p answers want.
func rightIs(t *testing.T, p api.Producer, want bool) {
	t.Helper()
	if Right(p) != want {
		t.Errorf("P10.2: Right of %v: %v, want %v", p, !want, want)
	}
}

// good are producers that are valid.
func good() []api.Producer {
	out := []api.Producer{state(3, -1), state(0, 0), state(api.MaxEpoch, api.MaxOffset), {Open: -1}, {ID: math.MaxInt64, Open: 5}}
	for _, l := range rows() {
		if len(l) <= 5 {
			out = append(out, state(3, -1, l...), state(0, 30, l...))
		}
	}
	return out
}

func TestRight(t *testing.T) {
	rightIs(t, api.Producer{}, true)
	for _, p := range good() {
		rightIs(t, p, true)
	}
}

func TestRightOfTheID(t *testing.T) {
	for id, want := range map[int64]bool{math.MinInt64: false, -1 << 40: false, -2: false, -1: false, 0: true, 1: true, 1 << 40: true, math.MaxInt64: true} {
		for _, p := range good() {
			p.ID = id
			rightIs(t, p, want)
		}
	}
}

func TestRightOfTheEpoch(t *testing.T) {
	for epoch, want := range map[int]bool{math.MinInt: false, -1 << 15: false, -1: false, 0: true, 1: true, 1<<15 - 1: true, 1 << 15: false, 1 << 16: false, math.MaxInt: false} {
		for _, p := range good() {
			p.Epoch = epoch
			rightIs(t, p, want)
		}
	}
}

func TestRightOfOpen(t *testing.T) {
	for open, want := range map[int64]bool{math.MinInt64: false, -1 << 40: false, -2: false, -1: true, 0: true, 1: true, 1<<40 - 1: true, 1 << 40: true, 1<<40 + 1: false, math.MaxInt64: false} {
		for _, p := range good() {
			p.Open = open
			rightIs(t, p, want)
		}
	}
}

func TestRightOfTheNumberOfElements(t *testing.T) {
	for n := range 20 {
		for _, first := range []int64{0, 77, api.MaxSeq - 5} {
			var l [][3]int64
			for i := range int64(n) {
				l = append(l, [3]int64{along(first, i), along(first, i), 10 + i})
			}
			rightIs(t, state(3, -1, l...), n <= 5)
		}
	}
}

// numbers are next to the bounds of sequence numbers and of offsets, and far behind them.
func numbers() []int64 {
	out := []int64{math.MinInt64, math.MinInt64 + 1, math.MaxInt64 - 1, math.MaxInt64}
	for d := int64(-18); d <= 18; d++ {
		out = append(out, d, api.MaxSeq+d, api.MaxOffset+d, -all+d, 2*all+d, 1<<32+d)
	}
	return out
}

// One element alone, with every two numbers: the last one is at most 15 steps behind the first one, also round.
func TestRightOfTheSequenceNumbers(t *testing.T) {
	for _, first := range numbers() {
		for _, last := range numbers() {
			want := false
			for count := range int64(api.MaxRecords) {
				if 0 <= first && first < all && along(first, count) == last {
					want = true
				}
			}
			rightIs(t, state(3, -1, [3]int64{first, last, 20}), want)
		}
	}
}

// No sequence number is -1, though seq.Last answers it where there is none.
func TestRightOfNoSequenceNumber(t *testing.T) {
	for _, e := range [][3]int64{{-1, -1, 20}, {5, -1, 20}, {-1, 0, 20}, {-2, -1, 20}, {-2, -2, 20}, {api.MaxSeq + 1, -1, 20}, {api.MaxSeq + 1, api.MaxSeq + 1, 20}, {api.MaxSeq, api.MaxSeq + 1, 20}} {
		rightIs(t, state(3, -1, e), false)
		rightIs(t, state(3, -1, e, [3]int64{0, 0, 21}), false)
		rightIs(t, state(3, -1, e, [3]int64{e[1] + 1, e[1] + 1, 21}), false)
	}
}

func TestRightOfTheBases(t *testing.T) {
	for _, base := range numbers() {
		in := 0 <= base && base <= 1<<40
		rightIs(t, state(3, -1, [3]int64{5, 6, base}), in)
		// Each has to be greater than the one ahead of it.
		for _, other := range []int64{0, 1, 1 << 31, 1<<40 - 1, 1 << 40} {
			rightIs(t, state(3, -1, [3]int64{5, 6, base}, [3]int64{7, 7, other}), in && base < other)
			rightIs(t, state(3, -1, [3]int64{5, 6, other}, [3]int64{7, 7, base}), in && other < base)
		}
	}
}

// changed returns p with another number k of the element i of Last.
func changed(p api.Producer, i, k int, n int64) api.Producer {
	p.Last = slices.Clone(p.Last)
	p.Last[i][k] = n
	return p
}

// In each place of a list, what follows the element ahead and what leads to the one behind is right, and no other number.
func TestRightOfEachElement(t *testing.T) {
	for _, p := range good() {
		for i, e := range p.Last {
			for _, off := range []int64{-2, -1, 1, 2, 16, 100} {
				// The first number of the first element alone is bound to nothing ahead of it.
				n := along(e[0], off)
				rightIs(t, changed(p, i, 0, n), i == 0 && along(e[1], -n) < api.MaxRecords)
				n = along(e[1], off)
				rightIs(t, changed(p, i, 1, n), i == len(p.Last)-1 && along(n, -e[0]) < api.MaxRecords)
			}
			for _, n := range []int64{-1, -2, api.MaxSeq + 1, e[0] + all, e[0] - all, math.MaxInt64} {
				rightIs(t, changed(p, i, 0, n), false)
			}
			for _, n := range []int64{-1, -2, api.MaxSeq + 1, e[1] + all, e[1] - all, math.MaxInt64} {
				rightIs(t, changed(p, i, 1, n), false)
			}
			for _, n := range []int64{-1, api.MaxOffset + 1, math.MinInt64, math.MaxInt64} {
				rightIs(t, changed(p, i, 2, n), false)
			}
			if i > 0 {
				rightIs(t, changed(p, i, 2, p.Last[i-1][2]), false)
				rightIs(t, changed(p, i, 2, p.Last[i-1][2]-1), false)
				rightIs(t, changed(p, i, 2, p.Last[i-1][2]+1), true)
			}
		}
	}
}

// differing are producers that are not equal to p, each in one field or number.
func differing(p api.Producer) []api.Producer {
	var out []api.Producer
	for _, d := range []int64{-1, 1, 1 << 32} {
		q := p
		q.ID += d
		out = append(out, q)
		q = p
		q.Epoch += int(d)
		out = append(out, q)
		q = p
		q.Open += d
		out = append(out, q)
		for i := range p.Last {
			for k := range p.Last[i] {
				out = append(out, changed(p, i, k, p.Last[i][k]+d))
			}
		}
	}
	q := p
	q.Last = append(slices.Clone(p.Last), [3]int64{})
	out = append(out, q)
	for i := range p.Last {
		q.Last = slices.Delete(slices.Clone(p.Last), i, i+1)
		out = append(out, q)
	}
	if len(p.Last) > 1 {
		q.Last = slices.Clone(p.Last)
		slices.Reverse(q.Last)
		out = append(out, q)
	}
	return out
}

// sameIs fails the test unless Same of a and b, and of b and a, answers want.
func sameIs(t *testing.T, a, b api.Producer, want bool) {
	t.Helper()
	if Same(a, b) != want || Same(b, a) != want {
		t.Errorf("P10.2: Same of %v and %v: not %v", a, b, want)
	}
}

func TestSame(t *testing.T) {
	// What is not valid is held against each other too.
	l := append(good(), api.Producer{}, api.Producer{ID: -9, Epoch: -9, Open: -9}, state(3, 5, [3]int64{9, 8, 7}, [3]int64{6, 5, 4}), state(3, 5, row(9, 0, 0)...))
	for _, p := range l {
		q := p
		q.Last = slices.Clone(p.Last)
		sameIs(t, p, q, true)
		sameIs(t, p, p, true)
		for _, d := range differing(p) {
			sameIs(t, p, d, false)
		}
		for _, q := range l {
			sameIs(t, p, q, equal(p, q))
		}
	}
}
