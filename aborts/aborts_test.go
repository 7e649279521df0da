package aborts_test

import (
	"math"
	"slices"
	"testing"

	"bordereau/aborts"
	"bordereau/api"
)

const (
	least = math.MinInt64
	most  = math.MaxInt64
)

// of returns transactions, of which three numbers each are Producer, First and Last.
func of(l ...int64) []api.Dropped {
	var out []api.Dropped
	for c := range slices.Chunk(l, 3) {
		out = append(out, api.Dropped{Producer: c[0], First: c[1], Last: c[2]})
	}
	return out
}

// row returns a list to which these transactions were added.
func row(t *testing.T, l []api.Dropped) *aborts.Row {
	t.Helper()
	r := aborts.New()
	for _, d := range l {
		adds(t, r, d)
	}
	return r
}

// adds fails the test unless Add takes d, behind all that r has.
func adds(t *testing.T, r *aborts.Row, d api.Dropped) {
	t.Helper()
	want := append(r.All(), d)
	if !r.Add(d) {
		t.Errorf("P13.1: Add(%v) behind %v: false, want true", d, want[:len(want)-1])
	}
	allAre(t, r, want...)
}

// refuses fails the test unless Add refuses d and changes nothing.
func refuses(t *testing.T, r *aborts.Row, d api.Dropped) {
	t.Helper()
	want := r.All()
	if r.Add(d) {
		t.Errorf("P13.1: Add(%v) behind %v: true, want false", d, want)
	}
	allAre(t, r, want...)
}

// allAre fails the test unless these are all transactions of r.
func allAre(t *testing.T, r *aborts.Row, want ...api.Dropped) {
	t.Helper()
	if got := r.All(); !slices.Equal(got, want) {
		t.Errorf("P13.1: All: %v, want %v", got, want)
	}
}

// several are lists of none, of one and of several transactions, which Add takes one after the other.
func several() [][]api.Dropped {
	return [][]api.Dropped{
		nil,
		of(0, 0, 1), of(7, 3, 9), of(most, api.MaxOffset-1, api.MaxOffset), of(4, 0, api.MaxOffset),
		// Apart, touching, and with one offset in common.
		of(1, 2, 5, 1, 8, 9), of(1, 2, 5, 2, 6, 9), of(1, 2, 5, 2, 5, 9),
		// One in another, from the same First on, and crossing.
		of(1, 3, 5, 2, 0, 9), of(1, 3, 5, 2, 3, 9), of(1, 3, 8, 2, 6, 9), of(1, 3, 5, 1, 0, 9), of(2, 4, 5, 1, 3, 6, 3, 2, 7, 9, 1, 8, 8, 0, 9),
		// As many as the offsets allow, and some far from each other.
		of(1, 0, 1, 2, 0, 2, 1, 0, 3, 2, 0, 4, 1, 0, 5),
		of(5, 10, 20, 5, 30, 31, 9, 12, 40, 5, 1000, 70000, 9, 50, 70001, 0, 1<<39, 1<<39+1, 5, 80000, api.MaxOffset),
	}
}

func TestNew(t *testing.T) {
	r := aborts.New()
	allAre(t, r)
	withins(t, r, least, most)
	bytesAre(t, r, 0)
	adds(t, r, api.Dropped{Producer: 0, First: 0, Last: 1})
	allAre(t, aborts.New())
}

func TestAdd(t *testing.T) {
	for _, l := range several() {
		r := row(t, l)
		allAre(t, r, l...)
	}
}

func TestAddOfNumbersAtTheirEnds(t *testing.T) {
	for _, d := range of(0, 0, 1, 0, 5, 6, 5, 0, 1, most, 0, 1, 0, 0, api.MaxOffset, 0, 0, api.MaxOffset-1, 0, api.MaxOffset-1, api.MaxOffset) {
		adds(t, aborts.New(), d)
	}
	wrong := of(
		-1, 2, 5, -2, 2, 5, least, 2, 5,
		3, -1, 5, 3, -2, 5, 3, least, 5,
		3, 5, 5, 3, 5, 4, 3, 5, 0, 3, 5, -1, 3, 5, least, 3, 0, 0, 3, 0, -1,
		3, 2, api.MaxOffset+1, 3, 2, api.MaxOffset+2, 3, 2, most,
		3, api.MaxOffset, api.MaxOffset, 3, api.MaxOffset, api.MaxOffset+1, 3, most, most, 3, most-1, most, 3, most, least,
		-1, -1, -1, -1, -1, 0, least, least, least, most, most, most,
	)
	for _, d := range wrong {
		refuses(t, aborts.New(), d)
		r := row(t, of(1, 0, 1))
		refuses(t, r, d)
		// It is as if d had not been there.
		adds(t, r, api.Dropped{Producer: 3, First: 0, Last: 2})
	}
}

func TestAddBehindOthers(t *testing.T) {
	for _, l := range several()[1:] {
		last := l[len(l)-1].Last
		for _, id := range []int64{0, 1, l[0].Producer, most} {
			for _, first := range []int64{0, 1, l[0].First, last - 1} {
				r := row(t, l)
				for _, n := range []int64{last, last - 1, l[0].Last, first, 0, -1, least} {
					refuses(t, r, api.Dropped{Producer: id, First: first, Last: n})
				}
				if last < api.MaxOffset {
					adds(t, r, api.Dropped{Producer: id, First: first, Last: last + 1})
					refuses(t, r, api.Dropped{Producer: id, First: first, Last: last + 1})
				} else {
					refuses(t, r, api.Dropped{Producer: id, First: first, Last: last + 1})
				}
			}
		}
		if last < api.MaxOffset {
			r := row(t, l)
			refuses(t, r, api.Dropped{Producer: 1, First: last + 1, Last: last + 1})
			adds(t, r, api.Dropped{Producer: 1, First: last, Last: last + 1})
		}
	}
}

// A list is changed by nothing that is done to another one.
func TestListsAreApart(t *testing.T) {
	x, y := aborts.New(), aborts.New()
	adds(t, x, api.Dropped{Producer: 1, First: 2, Last: 9})
	allAre(t, y)
	adds(t, y, api.Dropped{Producer: 2, First: 0, Last: 5})
	x.Cut(0)
	allAre(t, y, of(2, 0, 5)...)
	y.Start(6)
	adds(t, y, api.Dropped{Producer: 3, First: 0, Last: 1})
	allAre(t, x)
}
