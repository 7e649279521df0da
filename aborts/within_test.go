package aborts_test

import (
	"slices"
	"testing"

	"bordereau/aborts"
	"bordereau/api"
)

// withins fails the test unless Within answers these transactions.
func withins(t *testing.T, r *aborts.Row, from, to int64, want ...api.Dropped) {
	t.Helper()
	if got := r.Within(from, to); !slices.Equal(got, want) {
		t.Errorf("P13.1: Within(%d, %d) of %v: %v, want %v", from, to, r.All(), got, want)
	}
}

func TestWithinOfOne(t *testing.T) {
	r := row(t, of(7, 5, 9))
	for _, c := range []struct {
		from, to int64
		want     bool
	}{
		// Empty ranges, and such as end ahead of where they begin.
		{5, 5, false}, {7, 7, false}, {9, 9, false}, {10, 10, false}, {least, least, false}, {most, most, false},
		{8, 7, false}, {9, 5, false}, {10, 4, false}, {most, least, false}, {7, least, false}, {most, 7, false},
		// Those that end at First, and one behind it.
		{0, 4, false}, {0, 5, false}, {0, 6, true}, {4, 5, false}, {4, 6, true}, {5, 6, true}, {least, 5, false}, {least, 6, true},
		// Those that begin at Last, and one behind it.
		{8, 9, true}, {9, 10, true}, {9, 11, true}, {10, 11, false}, {9, most, true}, {10, most, false}, {11, most, false},
		// Inside, and around.
		{6, 7, true}, {6, 9, true}, {5, 10, true}, {4, 11, true}, {0, api.MaxOffset, true}, {-3, 7, true}, {-3, -1, false}, {-1, 0, false},
		// The least and the greatest number.
		{least, most, true}, {least, least + 1, false}, {least + 1, least, false}, {most - 1, most, false}, {least, 0, false}, {0, most, true}, {least, 7, true}, {7, most, true},
	} {
		if c.want {
			withins(t, r, c.from, c.to, of(7, 5, 9)...)
		} else {
			withins(t, r, c.from, c.to)
		}
		withins(t, aborts.New(), c.from, c.to)
	}
	allAre(t, r, of(7, 5, 9)...)
}

func TestWithinAtTheEndsOfTheOffsets(t *testing.T) {
	r := row(t, of(3, 0, 1, 4, api.MaxOffset-1, api.MaxOffset))
	first, last := of(3, 0, 1), of(4, api.MaxOffset-1, api.MaxOffset)
	both := slices.Concat(first, last)
	withins(t, r, 0, 1, first...)
	withins(t, r, 0, 0)
	withins(t, r, -1, 0)
	withins(t, r, -1, 1, first...)
	withins(t, r, 1, 2, first...)
	withins(t, r, 2, api.MaxOffset-1)
	withins(t, r, 1, api.MaxOffset-1, first...)
	withins(t, r, 1, api.MaxOffset, both...)
	withins(t, r, 2, api.MaxOffset, last...)
	withins(t, r, api.MaxOffset, api.MaxOffset+1, last...)
	withins(t, r, api.MaxOffset, api.MaxOffset)
	withins(t, r, api.MaxOffset+1, api.MaxOffset+2)
	withins(t, r, api.MaxOffset, most, last...)
	withins(t, r, api.MaxOffset+1, most)
	withins(t, r, least, most, both...)
}

// has reports whether d contains one of the offsets of the range, by looking at each.
func has(d api.Dropped, from, to int64) bool {
	for at := from; at < to; at++ {
		if at >= d.First && at <= d.Last {
			return true
		}
	}
	return false
}

// those returns the transactions of l for which keep is true, in order.
func those(l []api.Dropped, keep func(api.Dropped) bool) []api.Dropped {
	var out []api.Dropped
	for _, d := range l {
		if keep(d) {
			out = append(out, d)
		}
	}
	return out
}

func TestWithinOfEachRange(t *testing.T) {
	for _, l := range several() {
		if len(l) > 0 && l[len(l)-1].Last > 20 {
			continue
		}
		r := row(t, l)
		for from := int64(-2); from < 12; from++ {
			for to := int64(-2); to < 12; to++ {
				withins(t, r, from, to, those(l, func(d api.Dropped) bool { return has(d, from, to) })...)
			}
			withins(t, r, from, most, those(l, func(d api.Dropped) bool { return has(d, from, 12) })...)
			withins(t, r, least, from, those(l, func(d api.Dropped) bool { return has(d, -2, from) })...)
		}
		withins(t, r, least, most, l...)
		withins(t, r, most, least)
		allAre(t, r, l...)
	}
}
