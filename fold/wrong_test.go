package fold_test

import (
	"slices"
	"testing"

	"bordereau/api"
	"bordereau/fold"
)

// extremes are the ends of int64, the limits, and numbers next to them.
var extremes = []int64{least, least + 1, -(1 << 40), -2, -1, 0, 1, 2, 5, api.MaxFetch, api.MaxFetch + 1, 1 << 32, api.MaxOffset - 1, api.MaxOffset, api.MaxOffset + 1, most - 1, most}

// at returns b with that base, whatever was ahead of it.
func at(base int64, b api.Batch) api.Batch {
	b.Base = base
	return b
}

// strange are rows that no partition has: of batches that are not valid, and of such as do not follow one another.
func strange() [][]api.Batch {
	long := free(1)
	long.Recs[0] = api.Rec{Key: string(make([]byte, 5000))}
	full := commit(1)
	full.Recs = make([]api.Rec, 3)
	plain := abort(1)
	plain.Txn = false
	nobody := begin(-1, 2)
	nobody.Seq, nobody.Epoch = -1, -1
	odd := []api.Batch{{}, {Marker: 3}, {Marker: -1, Recs: make([]api.Rec, 2)}, data(1, 0), data(-7, 2), free(17), long, full, plain, nobody, in(-1, begin(1, 1)), in(api.MaxEpoch+1, begin(1, 1)), marker(1, least), marker(1, most), commit(-1), abort(most), begin(least, 2)}
	out := [][]api.Batch{odd}
	for _, b := range odd {
		out = append(out, []api.Batch{b}, []api.Batch{begin(1, 2), at(2, b), at(2, b), at(9, abort(1)), b})
	}
	for _, base := range extremes {
		b := at(base, begin(1, 4))
		out = append(out, []api.Batch{b}, []api.Batch{at(base, free(4)), at(base, abort(1))}, []api.Batch{at(base, commit(1))}, []api.Batch{at(3, begin(1, 1)), b, at(2, abort(1))})
		out = append(out, []api.Batch{at(9, begin(1, 2)), at(base, abort(1)), at(4, begin(2, 3)), at(base, commit(2)), at(0, free(2)), at(0, free(2))})
	}
	return append(out, nil, mixed())
}

// Every call comes back, and says the same as before (R1, R4).
func TestStrangeRows(t *testing.T) {
	for _, l := range strange() {
		for _, start := range extremes {
			end, stable := fold.End(start, l), fold.Stable(start, l)
			told := fold.Committed(start, l)
			if fold.End(start, l) != end || fold.Stable(start, l) != stable || !slices.Equal(fold.Committed(start, l), told) {
				t.Errorf("R4: End, Stable or Committed of %v", l)
			}
			for _, from := range append([]int64{start, start - 1, end, end + 1, stable}, extremes...) {
				for _, n := range extremes {
					fold.Records(start, l, from, n)
					strangeFetch(t, start, l, from, n)
				}
			}
		}
	}
}

// strangeFetch fails the test unless Fetch refuses what it has to, and answers the rest by no more than n records, which it can deliver.
func strangeFetch(t *testing.T, start int64, l []api.Batch, from, n int64) {
	t.Helper()
	end := fold.End(start, l)
	for _, only := range []bool{false, true} {
		f, why := fold.Fetch(start, l, from, n, only)
		want := api.OK
		if from < start || from > end {
			want = api.ErrRange
		}
		if n < 1 || n > api.MaxFetch {
			want = api.ErrArg
		}
		if why != want || why != api.OK && !sameFetch(f, api.Fetch{}) {
			t.Errorf("P14.2: Fetch(%d, %v, %d, %d, %v): %v, %d, want %d", start, l, from, n, only, f, int(why), int(want))
		}
		if why == api.OK && int64(len(f.Recs)) > n || !only && len(f.Aborted) > 0 {
			t.Errorf("P14.2: Fetch(%d, %v, %d, %d, %v): %v", start, l, from, n, only, f)
		}
		if len(fold.Deliver(f)) > len(f.Recs) {
			t.Errorf("P14.2: Deliver(%v)", f)
		}
	}
}

// What is no marker is data, and has records, valid or not; what is a marker has none.
func TestRecordsOfBatchesThatAreNotValid(t *testing.T) {
	odd := []api.Batch{data(-7, 2), in(-1, begin(1, 1)), free(20)}
	l := row(3, odd...)
	var all []int64
	for at := int64(3); at < 26; at++ {
		all = append(all, at)
	}
	records(t, 3, l, least, most, all...)
	for _, kind := range []int{api.Commit, api.Abort, 3, -1} {
		b := marker(1, kind)
		b.Recs = make([]api.Rec, 2)
		records(t, 0, []api.Batch{b}, least, most)
	}
}

// Batches that are not valid begin and end no transaction, so what is told is as if they were of none; and it is delivered as it is told (W2).
func TestDeliveredOfBatchesThatAreNotValid(t *testing.T) {
	nobody := begin(-1, 2)
	nobody.Epoch = -1
	for _, b := range []api.Batch{data(-7, 2), nobody, in(-1, begin(1, 1)), in(api.MaxEpoch+1, begin(2, 1)), free(17), marker(1, 3), in(-1, abort(1)), in(-1, commit(1))} {
		for _, end := range []api.Batch{commit(1), abort(1), abort(2), free(1)} {
			deliveredIsCommitted(t, 4, row(4, b), 1, 2, api.MaxFetch)
			deliveredIsCommitted(t, 4, row(4, b, end, free(1)), 1, 2, api.MaxFetch)
			deliveredIsCommitted(t, 4, row(4, begin(1, 2), b, free(1), end, b), 1, 2, api.MaxFetch)
			deliveredIsCommitted(t, 4, row(4, b, begin(1, 2), end, b, begin(2, 1), abort(2)), 1, 2, api.MaxFetch)
		}
	}
	committed(t, 0, row(0, in(-1, begin(1, 2)), free(1)), 0, 1, 2)
	ends(t, 0, row(0, in(-1, begin(1, 2)), free(1)), 3, 3)
	ends(t, 0, row(0, begin(1, 2), in(-1, abort(1)), free(1)), 4, 0)
}

func TestNumbersAtTheirEnds(t *testing.T) {
	for _, start := range extremes {
		ends(t, start, nil, start, start)
		for _, n := range []int64{1, api.MaxFetch} {
			fetches(t, start, nil, start, n, true, answer{next: start, stable: start})
			fetches(t, start, nil, start, n, false, answer{next: start, stable: start})
		}
	}
	for _, from := range []int64{least, least + 1, -1, 1, most - 1, most} {
		refuses(t, 0, nil, from, 1, api.ErrRange)
		refuses(t, 0, row(0, free(1))[:0], from, 1, api.ErrRange)
	}
	l := row(api.MaxOffset-3, begin(4, 2), abort(4))
	ends(t, api.MaxOffset-3, l, api.MaxOffset, api.MaxOffset)
	fetches(t, api.MaxOffset-3, l, api.MaxOffset-2, 1, true, answer{recs: []int64{api.MaxOffset - 2}, aborted: drops(4, api.MaxOffset-3, api.MaxOffset-1), next: api.MaxOffset - 1, stable: api.MaxOffset})
	refuses(t, api.MaxOffset-3, l, api.MaxOffset+1, 1, api.ErrRange)
}

// nil and empty lists mean the same (R4).
func TestEmptyLists(t *testing.T) {
	l := mixed()
	for i := range l {
		if len(l[i].Recs) == 0 {
			l[i].Recs = []api.Rec{}
		}
	}
	for from := int64(5); from < 24; from++ {
		x, _ := fold.Fetch(5, mixed(), from, 4, true)
		y, _ := fold.Fetch(5, l, from, 4, true)
		if !sameFetch(x, y) {
			t.Errorf("R4: Fetch from %d: %v and %v", from, x, y)
		}
	}
	ends(t, 5, l, 23, 23)
	committed(t, 5, l, 5, 6, 8, 9, 10, 12, 18)
}
