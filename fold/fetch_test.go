package fold_test

import (
	"slices"
	"testing"

	"bordereau/api"
	"bordereau/fold"
)

// drops returns transactions, of which three numbers each are Producer, First and Last.
func drops(l ...int64) []api.Dropped {
	var out []api.Dropped
	for c := range slices.Chunk(l, 3) {
		out = append(out, api.Dropped{Producer: c[0], First: c[1], Last: c[2]})
	}
	return out
}

// answer is what a Fetch tells: the offsets of its records in place of them.
type answer struct {
	recs    []int64
	aborted []api.Dropped
	next    int64
	stable  int64
}

// fetches fails the test unless Fetch answers so.
func fetches(t *testing.T, start int64, l []api.Batch, from, n int64, only bool, want answer) {
	t.Helper()
	f, why := fold.Fetch(start, l, from, n, only)
	if why != api.OK {
		t.Errorf("P14.2: Fetch(%d, .., %d, %d, %v): %d, want 0", start, from, n, only, int(why))
		return
	}
	tells(t, "P14.2: Fetch", f.Recs, want.recs...)
	if !slices.Equal(f.Aborted, want.aborted) || f.Next != want.next || f.Stable != want.stable {
		t.Errorf("P14.2: Fetch(%d, .., %d, %d, %v): %v, %d, %d, want %v, %d, %d", start, from, n, only, f.Aborted, f.Next, f.Stable, want.aborted, want.next, want.stable)
	}
}

// refuses fails the test unless Fetch answers that error, and nothing else.
func refuses(t *testing.T, start int64, l []api.Batch, from, n int64, want api.Errno) {
	t.Helper()
	for _, only := range []bool{false, true} {
		f, why := fold.Fetch(start, l, from, n, only)
		if why != want {
			t.Errorf("P14.2: Fetch(%d, .., %d, %d, %v): %d, want %d", start, from, n, only, int(why), int(want))
		}
		if len(f.Recs) > 0 || len(f.Aborted) > 0 || f.Next != 0 || f.Stable != 0 {
			t.Errorf("R3: Fetch(%d, .., %d, %d, %v): %v behind an error", start, from, n, only, f)
		}
	}
}

func TestFetchRefusals(t *testing.T) {
	for _, l := range [][]api.Batch{mixed(), mixed()[:12], row(5, free(3)), nil} {
		end := int64(5)
		for _, b := range l {
			end = b.Base + max(1, int64(len(b.Recs)))
		}
		for _, n := range []int64{0, -1, -2, least, api.MaxFetch + 1, api.MaxFetch + 2, 1 << 32, 1<<32 + 1, most} {
			// ErrArg comes first, so also where ErrRange would apply.
			for _, from := range []int64{5, end, 4, end + 1, 0, least, most} {
				refuses(t, 5, l, from, n, api.ErrArg)
			}
		}
		for _, n := range []int64{1, 2, api.MaxFetch - 1, api.MaxFetch} {
			for _, from := range []int64{4, 3, 0, -1, least, end + 1, end + 2, api.MaxOffset, most} {
				refuses(t, 5, l, from, n, api.ErrRange)
			}
			for from := int64(5); from <= end; from++ {
				for _, only := range []bool{false, true} {
					if _, why := fold.Fetch(5, l, from, n, only); why != api.OK {
						t.Errorf("P14.2: Fetch from %d, with End %d: %d, want 0", from, end, int(why))
					}
				}
			}
		}
	}
	refuses(t, 0, nil, -1, 1, api.ErrRange)
	refuses(t, 0, nil, 1, 1, api.ErrRange)
	refuses(t, 0, nil, 0, 0, api.ErrArg)
}

func TestFetchOfNoBatches(t *testing.T) {
	for _, start := range []int64{0, 5, api.MaxOffset} {
		for _, n := range []int64{1, api.MaxFetch} {
			for _, only := range []bool{false, true} {
				fetches(t, start, nil, start, n, only, answer{next: start, stable: start})
				fetches(t, start, []api.Batch{}, start, n, only, answer{next: start, stable: start})
			}
		}
	}
}

func TestFetchOfAll(t *testing.T) {
	l := mixed()[:12]
	all := []int64{5, 6, 7, 8, 9, 10, 12, 14, 15, 16, 18, 19, 20}
	// More records than n, as many, and fewer.
	for n := int64(1); n < 13; n++ {
		fetches(t, 5, l, 5, n, false, answer{recs: all[:n], next: all[n-1] + 1, stable: 14})
	}
	fetches(t, 5, l, 5, 13, false, answer{recs: all, next: 21, stable: 14})
	fetches(t, 5, l, 5, 14, false, answer{recs: all, next: 22, stable: 14})
	fetches(t, 5, l, 5, api.MaxFetch, false, answer{recs: all, next: 22, stable: 14})
	// From a batch's first offset, from inside it, its last, and a marker's.
	fetches(t, 5, l, 14, 2, false, answer{recs: all[7:9], next: 16, stable: 14})
	fetches(t, 5, l, 15, 1, false, answer{recs: all[8:9], next: 16, stable: 14})
	fetches(t, 5, l, 16, 1, false, answer{recs: all[9:10], next: 17, stable: 14})
	fetches(t, 5, l, 17, 1, false, answer{recs: all[10:11], next: 19, stable: 14})
	fetches(t, 5, l, 21, 1, false, answer{next: 22, stable: 14})
	fetches(t, 5, l, 22, 1, false, answer{next: 22, stable: 14})
	fetches(t, 5, mixed(), 5, api.MaxFetch, false, answer{recs: all, next: 23, stable: 23})
}

func TestFetchOfWhatIsStable(t *testing.T) {
	l := mixed()[:12]
	all := []int64{5, 6, 7, 8, 9, 10, 12}
	first := drops(1, 7, 11)
	// The transaction is told as soon as the range reaches it.
	fetches(t, 5, l, 5, 1, true, answer{recs: all[:1], next: 6, stable: 14})
	fetches(t, 5, l, 5, 2, true, answer{recs: all[:2], next: 7, stable: 14})
	for n := int64(3); n < 7; n++ {
		fetches(t, 5, l, 5, n, true, answer{recs: all[:n], aborted: first, next: all[n-1] + 1, stable: 14})
	}
	fetches(t, 5, l, 5, 7, true, answer{recs: all, aborted: first, next: 13, stable: 14})
	fetches(t, 5, l, 5, 8, true, answer{recs: all, aborted: first, next: 14, stable: 14})
	fetches(t, 5, l, 5, api.MaxFetch, true, answer{recs: all, aborted: first, next: 14, stable: 14})
	// From within the transaction, from its marker, and from behind it.
	fetches(t, 5, l, 8, 1, true, answer{recs: all[3:4], aborted: first, next: 9, stable: 14})
	fetches(t, 5, l, 11, 1, true, answer{recs: all[6:], aborted: first, next: 13, stable: 14})
	fetches(t, 5, l, 11, 2, true, answer{recs: all[6:], aborted: first, next: 14, stable: 14})
	fetches(t, 5, l, 12, 1, true, answer{recs: all[6:], next: 13, stable: 14})
	// At Stable, between it and End, and at End there is nothing, and nowhere else to go on.
	fetches(t, 5, l, 13, 1, true, answer{next: 14, stable: 14})
	for _, n := range []int64{1, 2, api.MaxFetch} {
		for from := int64(14); from <= 22; from++ {
			fetches(t, 5, l, from, n, true, answer{next: from, stable: 14})
		}
	}
	// Behind the last marker all is stable, and the transactions are told by their markers.
	all = append(all, 14, 15, 16, 18, 19, 20)
	fetches(t, 5, mixed(), 5, api.MaxFetch, true, answer{recs: all, aborted: drops(1, 7, 11, 3, 19, 21, 2, 14, 22), next: 23, stable: 23})
	fetches(t, 5, mixed(), 12, 1, true, answer{recs: all[6:7], next: 13, stable: 23})
	fetches(t, 5, mixed(), 13, 1, true, answer{recs: all[7:8], aborted: drops(2, 14, 22), next: 15, stable: 23})
	fetches(t, 5, mixed(), 16, 2, true, answer{recs: all[9:11], aborted: drops(2, 14, 22), next: 19, stable: 23})
	fetches(t, 5, mixed(), 16, 3, true, answer{recs: all[9:12], aborted: drops(3, 19, 21, 2, 14, 22), next: 20, stable: 23})
	fetches(t, 5, mixed(), 21, 1, true, answer{aborted: drops(3, 19, 21, 2, 14, 22), next: 23, stable: 23})
	fetches(t, 5, mixed(), 22, 1, true, answer{aborted: drops(2, 14, 22), next: 23, stable: 23})
	fetches(t, 5, mixed(), 23, 1, true, answer{next: 23, stable: 23})
}

// With everything open from the start on, nothing is stable.
func TestFetchOfNothingStable(t *testing.T) {
	for _, start := range []int64{0, 6} {
		l := row(start, begin(1, 1), free(2), begin(2, 1), abort(2))
		fetches(t, start, l, start, api.MaxFetch, true, answer{next: start, stable: start})
		fetches(t, start, l, start+2, 1, true, answer{next: start + 2, stable: start})
		// Without only, the transactions that were aborted are not told.
		fetches(t, start, l, start, api.MaxFetch, false, answer{recs: []int64{start, start + 1, start + 2, start + 3}, next: start + 5, stable: start})
	}
}

// More records than any Fetch tells.
func TestFetchOfMany(t *testing.T) {
	var l []api.Batch
	for range 10 {
		l = append(l, begin(1, 16), commit(1))
	}
	l = row(3, l...)
	var all []int64
	for at := range int64(170) {
		if at%17 != 16 {
			all = append(all, 3+at)
		}
	}
	for _, only := range []bool{false, true} {
		fetches(t, 3, l, 3, api.MaxFetch, only, answer{recs: all[:64], next: all[63] + 1, stable: 173})
		fetches(t, 3, l, 3, api.MaxFetch-1, only, answer{recs: all[:63], next: all[62] + 1, stable: 173})
		fetches(t, 3, l, 19, api.MaxFetch, only, answer{recs: all[16:80], next: all[79] + 1, stable: 173})
		fetches(t, 3, l, 150, api.MaxFetch, only, answer{recs: all[139:], next: 173, stable: 173})
		// Just as many are left.
		fetches(t, 3, l, all[96], api.MaxFetch, only, answer{recs: all[96:], next: 172, stable: 173})
		fetches(t, 3, l, all[97], api.MaxFetch, only, answer{recs: all[97:], next: 173, stable: 173})
	}
}
