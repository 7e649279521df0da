package fold_test

import (
	"slices"
	"testing"

	"bordereau/api"
	"bordereau/batch"
	"bordereau/fold"
)

var (
	junkGot  = api.Got{Offset: -9, Producer: -9, Rec: api.Rec{Key: "junk"}}
	junkDrop = api.Dropped{Producer: -9, First: -9, Last: -9}
)

// fill overwrites all elements of l and its spare capacity.
func fill[T any](l []T, with T) {
	l = l[:cap(l)]
	for i := range l {
		l[i] = with
	}
}

// roomy returns the batches with spare capacity that has something in it: behind the list an abort of all, behind the records another one.
func roomy(l []api.Batch) []api.Batch {
	for i := range l {
		l[i].Recs = append(slices.Clone(l[i].Recs), api.Rec{Key: "spare"})[:len(l[i].Recs)]
	}
	return append(slices.Clone(l), at(23, abort(2)), at(24, begin(9, 1)))[:len(l)]
}

// unchanged fails the test unless roomy batches are as they were made.
func unchanged(t *testing.T, got, want []api.Batch) {
	t.Helper()
	if !slices.EqualFunc(got, want, batch.Same) {
		t.Errorf("R2: the batches were changed: %v, want %v", got, want)
	}
	for i, b := range got {
		if spare := b.Recs[:len(b.Recs)+1][len(b.Recs)]; spare.Key != "spare" {
			t.Errorf("R5: what follows the records of batch %d was changed: %v", i, spare)
		}
	}
	behind := got[:len(got)+2][len(got):]
	if !batch.Same(behind[0], at(23, abort(2))) || !batch.Same(behind[1], at(24, begin(9, 1))) {
		t.Errorf("R5: what follows the batches was changed: %v", behind)
	}
}

// askAll asks everything and overwrites what is told.
func askAll(start int64, l []api.Batch) {
	fold.End(start, l)
	fold.Stable(start, l)
	fill(fold.Records(start, l, least, most), junkGot)
	fill(fold.Records(start, l, 8, 12), junkGot)
	fill(fold.Committed(start, l), junkGot)
	for _, n := range []int64{1, 5, api.MaxFetch} {
		for _, only := range []bool{false, true} {
			f, _ := fold.Fetch(start, l, 7, n, only)
			fill(fold.Deliver(f), junkGot)
			fill(f.Recs, junkGot)
			fill(f.Aborted, junkDrop)
		}
	}
}

func TestBatchesAreNeitherChangedNorShared(t *testing.T) {
	for n := range mixed() {
		l := roomy(mixed()[:n+1])
		askAll(5, l)
		unchanged(t, l, mixed()[:n+1])
		agree(t, 5, l, 1, 4, api.MaxFetch)
	}
}

// What was told stays as it is, whatever becomes of what it was told of.
func TestNothingHandedInIsKept(t *testing.T) {
	l := roomy(mixed())
	recs, done := fold.Records(5, l, least, most), fold.Committed(5, l)
	f, _ := fold.Fetch(5, l, 5, 12, true)
	sent := fold.Deliver(f)
	for i := range l {
		fill(l[i].Recs, api.Rec{Key: "junk"})
	}
	fill(l, api.Batch{Base: 7, Producer: 7})
	askAll(5, l)
	m := modelOf(5, mixed())
	want, _ := m.records(5, 23, most)
	if !slices.Equal(recs, want) || !slices.Equal(done, m.committed()) || !sameFetch(f, m.fetch(5, 12, true)) || !slices.Equal(sent, m.committed()) {
		t.Errorf("R2: what was told was changed: %v, %v, %v, %v", recs, done, f, sent)
	}
}

func TestDeliverLeavesItsFetch(t *testing.T) {
	for _, aborted := range [][]api.Dropped{nil, drops(1, 5, 8), drops(1, 5, 8, 2, 6, 12), drops(4, 0, 99)} {
		recs := append(gots(5, 1, 6, 2, 7, 1, 8, -1, 9, 2), junkGot, junkGot)[:5]
		list := append(slices.Clone(aborted), junkDrop, api.Dropped{Producer: 2, First: 0, Last: 99})[:len(aborted)]
		f := api.Fetch{Recs: recs, Aborted: list, Next: 10, Stable: 12}
		got := fold.Deliver(f)
		was := slices.Clone(got)
		fill(fold.Deliver(f), junkGot)
		_ = append(fold.Deliver(f), junkGot)
		if !slices.Equal(f.Recs, gots(5, 1, 6, 2, 7, 1, 8, -1, 9, 2)) || !slices.Equal(f.Aborted, aborted) || f.Next != 10 || f.Stable != 12 {
			t.Errorf("R2: Deliver changed its Fetch: %v", f)
		}
		behind := list[:len(list)+2][len(list):]
		if recs[:7][5] != junkGot || recs[:7][6] != junkGot || behind[0] != junkDrop || behind[1].Last != 99 {
			t.Errorf("R5: Deliver changed what follows its lists: %v, %v", recs[:7], behind)
		}
		fill(recs, junkGot)
		fill(list, junkDrop)
		if !slices.Equal(got, was) {
			t.Errorf("R2: what was delivered was changed: %v, want %v", got, was)
		}
	}
}

// Results of one call share nothing with those of another one.
func TestResultsAreApart(t *testing.T) {
	l := mixed()
	x, _ := fold.Fetch(5, l, 5, 10, true)
	y, _ := fold.Fetch(5, l, 5, 10, true)
	fill(x.Recs, junkGot)
	fill(x.Aborted, junkDrop)
	if want := modelOf(5, l).fetch(5, 10, true); !sameFetch(y, want) {
		t.Errorf("R2: what was told was changed: %v, want %v", y, want)
	}
	all := fold.Records(5, l, least, most)
	fill(fold.Records(5, l, least, most), junkGot)
	fill(fold.Committed(5, l), junkGot)
	tells(t, "R2: Records", all, 5, 6, 7, 8, 9, 10, 12, 14, 15, 16, 18, 19, 20)
}
