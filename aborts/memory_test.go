package aborts_test

import (
	"bytes"
	"slices"
	"testing"

	"bordereau/aborts"
	"bordereau/api"
)

// fill overwrites all elements of l and its spare capacity.
func fill[T any](l []T, with T) {
	l = l[:cap(l)]
	for i := range l {
		l[i] = with
	}
}

// ways are the ways in which a list of these transactions can come to be.
func ways(t *testing.T, l []api.Dropped) []*aborts.Row {
	t.Helper()
	cut := row(t, l)
	if len(l) > 0 && l[len(l)-1].Last < api.MaxOffset {
		cut.Add(api.Dropped{Producer: 1, First: 0, Last: api.MaxOffset})
		cut.Cut(api.MaxOffset)
	}
	start := row(t, l)
	start.Start(0)
	read, why := aborts.Read(nums(written(l)...))
	if why != api.OK {
		t.Fatalf("P13.1: Read: %d", int(why))
	}
	return []*aborts.Row{row(t, l), cut, start, read}
}

var junk = api.Dropped{Producer: -9, First: -9, Last: -9}

func TestResultsShareNoMemoryWithTheList(t *testing.T) {
	for _, l := range several() {
		for _, r := range ways(t, l) {
			fill(r.All(), junk)
			allAre(t, r, l...)
			fill(r.Within(least, most), junk)
			fill(r.Within(0, 4), junk)
			allAre(t, r, l...)
			fill(r.Bytes(), 0xee)
			bytesAre(t, r, written(l)...)
			withins(t, r, least, most, l...)
			// Nor do they with each other, and what was told stays.
			all, within, b := r.All(), r.Within(least, most), r.Bytes()
			fill(r.All(), junk)
			fill(r.Within(least, most), junk)
			fill(r.Bytes(), 0xee)
			fill(within, junk)
			r.Add(api.Dropped{Producer: 1, First: 0, Last: api.MaxOffset})
			r.Start(5)
			r.Cut(9)
			r.Add(api.Dropped{Producer: 2, First: 7, Last: 70})
			if !slices.Equal(all, l) || !bytes.Equal(b, nums(written(l)...)) {
				t.Errorf("R2: what was told of %v was changed: %v, %v", l, all, b)
			}
		}
	}
}

// What is appended to a result does not reach the list, and what is added to the list does not reach the result.
func TestSpareCapacityOfResults(t *testing.T) {
	r := aborts.New()
	var told [][]api.Dropped
	for i := range int64(40) {
		_ = append(r.All(), junk)
		_ = append(r.Within(least, most), junk)
		told = append(told, r.All(), r.Within(0, most))
		adds(t, r, api.Dropped{Producer: i, First: i, Last: i + 1})
	}
	for i, l := range told {
		if len(l) != i/2 {
			t.Errorf("R2: a result has %d transactions now, want %d", len(l), i/2)
		}
		for k, d := range l {
			if want := (api.Dropped{Producer: int64(k), First: int64(k), Last: int64(k) + 1}); d != want {
				t.Errorf("R2: a result was changed: %v, want %v", d, want)
			}
		}
	}
}

func TestReadKeepsNoBytes(t *testing.T) {
	for _, l := range several() {
		b := nums(written(l)...)
		// What follows the bytes is no part of them.
		long := append(slices.Clone(b), 0xaa, 0xbb)[:len(b)]
		r := reads(t, long, l...)
		if !bytes.Equal(long, b) || long[:len(b)+1][len(b)] != 0xaa || long[:len(b)+2][len(b)+1] != 0xbb {
			t.Errorf("R2: bytes were changed: %v, want %v and 0xaa, 0xbb", long[:len(b)+2], b)
		}
		fill(long, 0xee)
		allAre(t, r, l...)
		bytesAre(t, r, written(l)...)
		// Bytes that are cut off are not made whole by those that follow them.
		for n := range b {
			corrupt(t, "bytes whose end is spare capacity", b[:n])
		}
	}
}

func TestOfKeepsNoBatches(t *testing.T) {
	l := []api.Batch{begin(0, 4), begin(1, 9), abort(2, 4), abort(3, 9)}
	for i := range l {
		l[i].Recs = append(slices.Clone(l[i].Recs), api.Rec{Key: "spare", Value: "spare"})[:len(l[i].Recs)]
	}
	was := slices.Clone(l)
	list := append(slices.Clone(l), abort(5, 4))[:len(l)]
	r := ofIs(t, list, of(4, 0, 2, 9, 1, 3)...)
	for i, b := range list {
		spare := b.Recs[:len(b.Recs)+1][len(b.Recs)]
		if b.Base != was[i].Base || b.Producer != was[i].Producer || b.Marker != was[i].Marker || len(b.Recs) != len(was[i].Recs) || spare.Key != "spare" {
			t.Errorf("R2: a batch was changed: %v, want %v", b, was[i])
		}
	}
	if behind := list[:len(list)+1][len(list)]; behind.Base != 5 || behind.Marker != api.Abort {
		t.Errorf("R5: what follows the batches was changed: %v", behind)
	}
	fill(list, api.Batch{Base: 7, Producer: 7})
	allAre(t, r, of(4, 0, 2, 9, 1, 3)...)
	// What is done to one list of these batches does not reach another one of them.
	x, y := aborts.Of(was), aborts.Of(was)
	x.Cut(0)
	allAre(t, x)
	allAre(t, y, of(4, 0, 2, 9, 1, 3)...)
}
