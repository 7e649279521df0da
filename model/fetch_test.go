package model

import (
	"testing"

	"bordereau/api"
	"bordereau/fold"
)

// fetchIs fails the test unless Fetch answers as fold.Fetch does for the batches.
func fetchIs(t *testing.T, l *Log, from, n int64, only bool) {
	t.Helper()
	got, why := l.Fetch(from, n, only)
	want, is := fold.Fetch(l.Start(), l.Batches(), from, n, only)
	if why != is || !same(got, want) {
		t.Errorf("P15.1: Fetch(%d, %d, %v) of %v: %v, %d, want %v, %d", from, n, only, l.Batches(), got, int(why), want, int(is))
	}
}

// fetchesAre fails the test unless Fetch is right wherever it may begin, and around that.
func fetchesAre(t *testing.T, l *Log) {
	t.Helper()
	for from := l.Start() - 2; from <= l.End()+2; from++ {
		for _, n := range []int64{-1, 0, 1, 2, 5, api.MaxFetch, api.MaxFetch + 1} {
			fetchIs(t, l, from, n, true)
			fetchIs(t, l, from, n, false)
		}
	}
}

func TestFetch(t *testing.T) {
	for n := range len(mixed()) + 1 {
		for _, start := range []int64{0, 7} {
			fetchesAre(t, filled(t, roomy, start, mixed()[:n]...))
		}
	}
	l := filled(t, roomy, 0, mixed()...)
	for _, from := range []int64{1, 2, 5, 8, 11, most} {
		l.Keep(from)
		fetchesAre(t, l)
	}
	for n := 5; n >= 0; n-- {
		l.Cut(n)
		fetchesAre(t, l)
	}
}

func TestFetchTells(t *testing.T) {
	l := filled(t, roomy, 0, data(1, 3, 7, true, 2), free(1), marker(1, 3, api.Abort), data(2, 0, 0, true, 1))
	one, two, lone, last := api.Got{Offset: 0, Producer: 1, Rec: recs(2)[0]}, api.Got{Offset: 1, Producer: 1, Rec: recs(2)[1]}, api.Got{Offset: 2, Producer: -1, Rec: recs(1)[0]}, api.Got{Offset: 4, Producer: 2, Rec: recs(1)[0]}
	aborted := []api.Dropped{{Producer: 1, First: 0, Last: 3}}
	for _, c := range []struct {
		from, n int64
		only    bool
		want    api.Fetch
		why     api.Errno
	}{
		{0, 64, true, api.Fetch{Recs: []api.Got{one, two, lone}, Aborted: aborted, Next: 4, Stable: 4}, api.OK},
		{0, 64, false, api.Fetch{Recs: []api.Got{one, two, lone, last}, Next: 5, Stable: 4}, api.OK},
		{0, 2, true, api.Fetch{Recs: []api.Got{one, two}, Aborted: aborted, Next: 2, Stable: 4}, api.OK},
		{1, 2, false, api.Fetch{Recs: []api.Got{two, lone}, Next: 3, Stable: 4}, api.OK},
		{4, 1, true, api.Fetch{Next: 4, Stable: 4}, api.OK},
		{4, 1, false, api.Fetch{Recs: []api.Got{last}, Next: 5, Stable: 4}, api.OK},
		{5, 1, true, api.Fetch{Next: 5, Stable: 4}, api.OK},
		{5, 1, false, api.Fetch{Next: 5, Stable: 4}, api.OK},
		{6, 1, true, api.Fetch{}, api.ErrRange}, {-1, 1, true, api.Fetch{}, api.ErrRange}, {least, 1, false, api.Fetch{}, api.ErrRange}, {most, 64, false, api.Fetch{}, api.ErrRange},
		{0, 0, true, api.Fetch{}, api.ErrArg}, {0, 65, true, api.Fetch{}, api.ErrArg}, {6, 0, true, api.Fetch{}, api.ErrArg}, {least, least, false, api.Fetch{}, api.ErrArg}, {most, most, false, api.Fetch{}, api.ErrArg},
	} {
		if f, why := l.Fetch(c.from, c.n, c.only); why != c.why || !same(f, c.want) {
			t.Errorf("P15.1: Fetch(%d, %d, %v): %v, %d, want %v, %d", c.from, c.n, c.only, f, int(why), c.want, int(c.why))
		}
	}
	// Ahead of the start, there is nothing to be told.
	if l.Keep(3) != 3 {
		t.Error("P15.2: Keep(3)")
	}
	if f, why := l.Fetch(2, 1, true); why != api.ErrRange || !same(f, api.Fetch{}) {
		t.Errorf("P15.1: Fetch ahead of the start: %v, %d", f, int(why))
	}
	if f, why := l.Fetch(3, 1, true); why != api.OK || !same(f, api.Fetch{Next: 4, Stable: 4}) {
		t.Errorf("P15.1: Fetch at the start: %v, %d", f, int(why))
	}
}

// Readers that go on where the last fetch ended get each committed record once, while batches come and go behind and ahead of them (W2).
func TestFetchOn(t *testing.T) {
	for n := int64(1); n <= 9; n++ {
		l := New(roomy)
		var got []api.Got
		at := int64(0)
		for _, b := range append(mixed(), marker(2, 0, api.Commit)) {
			if b.Marker != 0 {
				marks(t, l, b.Producer, b.Epoch, b.Marker)
			} else {
				adds(t, l, b)
			}
			f, why := l.Fetch(at, n, true)
			if why != api.OK || f.Next < at || f.Next > max(at, f.Stable) {
				t.Errorf("W2: Fetch(%d, %d, true): %v, %d", at, n, f, int(why))
			}
			got, at = append(got, fold.Deliver(f)...), f.Next
			l.Keep(at)
		}
		// Each fetch gets on by one offset at least.
		for range l.End() - at {
			f, _ := l.Fetch(at, n, true)
			got, at = append(got, fold.Deliver(f)...), f.Next
		}
		want := fold.Committed(0, row(0, append(mixed(), marker(2, 0, api.Commit))...))
		if !same(api.Fetch{Recs: got}, api.Fetch{Recs: want}) {
			t.Errorf("W2: fetches of %d: %v, want %v", n, got, want)
		}
	}
}
