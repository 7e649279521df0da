package aborts_test

import (
	"testing"

	"bordereau/aborts"
	"bordereau/api"
)

// cuts fails the test unless want are left of l behind Cut(end).
func cuts(t *testing.T, l []api.Dropped, end int64, want ...api.Dropped) *aborts.Row {
	t.Helper()
	r := row(t, l)
	r.Cut(end)
	allAre(t, r, want...)
	withins(t, r, least, most, want...)
	return r
}

// starts fails the test unless want are left of l behind Start(from).
func starts(t *testing.T, l []api.Dropped, from int64, want ...api.Dropped) *aborts.Row {
	t.Helper()
	r := row(t, l)
	r.Start(from)
	allAre(t, r, want...)
	withins(t, r, least, most, want...)
	return r
}

// around are the numbers at which Cut and Start could go wrong with l.
func around(l []api.Dropped) []int64 {
	out := []int64{least, least + 1, -2, -1, 0, 1, api.MaxOffset - 1, api.MaxOffset, api.MaxOffset + 1, most - 1, most}
	for _, d := range l {
		out = append(out, d.First-1, d.First, d.First+1, d.Last-1, d.Last, d.Last+1)
	}
	return out
}

func TestCut(t *testing.T) {
	l := of(1, 2, 5, 2, 0, 8, 1, 7, 12)
	cuts(t, l, 13, l...)
	cuts(t, l, 12, l[:2]...)
	cuts(t, l, 11, l[:2]...)
	cuts(t, l, 9, l[:2]...)
	cuts(t, l, 8, l[:1]...)
	cuts(t, l, 7, l[:1]...)
	cuts(t, l, 6, l[:1]...)
	for _, end := range []int64{5, 4, 2, 0, -1, least} {
		cuts(t, l, end)
	}
	cuts(t, l, most, l...)
	cuts(t, of(4, 0, api.MaxOffset), api.MaxOffset)
	cuts(t, of(4, 0, api.MaxOffset), api.MaxOffset+1, of(4, 0, api.MaxOffset)...)
	cuts(t, nil, 3)
}

func TestStart(t *testing.T) {
	l := of(1, 2, 5, 2, 0, 8, 1, 7, 12)
	for _, from := range []int64{5, 4, 2, 0, -1, least} {
		starts(t, l, from, l...)
	}
	starts(t, l, 6, l[1:]...)
	starts(t, l, 7, l[1:]...)
	starts(t, l, 8, l[1:]...)
	starts(t, l, 9, l[2:]...)
	starts(t, l, 11, l[2:]...)
	starts(t, l, 12, l[2:]...)
	starts(t, l, 13)
	starts(t, l, most)
	starts(t, of(4, 0, api.MaxOffset), api.MaxOffset, of(4, 0, api.MaxOffset)...)
	starts(t, of(4, 0, api.MaxOffset), api.MaxOffset+1)
	starts(t, nil, 3)
}

func TestCutAndStartOfEachList(t *testing.T) {
	for _, l := range several() {
		for _, n := range around(l) {
			cuts(t, l, n, those(l, func(d api.Dropped) bool { return d.Last < n })...)
			starts(t, l, n, those(l, func(d api.Dropped) bool { return d.Last >= n })...)
			// Once more changes nothing.
			r := cuts(t, l, n, those(l, func(d api.Dropped) bool { return d.Last < n })...)
			want := r.All()
			r.Cut(n)
			allAre(t, r, want...)
			r.Start(n)
			allAre(t, r)
		}
	}
}

// What was removed stands in the way of nothing, and what is left does.
func TestAddBehindCut(t *testing.T) {
	l := of(1, 2, 5, 2, 0, 8, 1, 7, 12)
	for _, end := range around(l) {
		left := those(l, func(d api.Dropped) bool { return d.Last < end })
		last := int64(0)
		if len(left) > 0 {
			last = left[len(left)-1].Last
		}
		r := cuts(t, l, end, left...)
		refuses(t, r, api.Dropped{Producer: 9, First: 0, Last: last})
		adds(t, r, api.Dropped{Producer: 9, First: 0, Last: last + 1})
		for _, d := range l {
			if d.Last > last+1 {
				adds(t, r, d)
			} else {
				refuses(t, r, d)
			}
		}
	}
}

func TestAddBehindStart(t *testing.T) {
	l := of(1, 2, 5, 2, 0, 8, 1, 7, 12)
	for _, from := range around(l) {
		left := those(l, func(d api.Dropped) bool { return d.Last >= from })
		r := starts(t, l, from, left...)
		if len(left) == 0 {
			// All were removed, and with them what Add would hold against the offsets ahead of them.
			adds(t, r, api.Dropped{Producer: 9, First: 0, Last: 1})
			adds(t, r, api.Dropped{Producer: 9, First: 0, Last: 2})
			refuses(t, r, api.Dropped{Producer: 9, First: 0, Last: 2})
			continue
		}
		// The last one is left, so what lies ahead of it may not follow, removed or not.
		for _, d := range l {
			refuses(t, r, d)
		}
		refuses(t, r, api.Dropped{Producer: 9, First: 0, Last: 12})
		adds(t, r, api.Dropped{Producer: 9, First: 0, Last: 13})
	}
}
