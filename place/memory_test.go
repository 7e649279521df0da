package place_test

import (
	"slices"
	"testing"

	"bordereau/api"
	"bordereau/batch"
	"bordereau/files"
	"bordereau/place"
)

// fill overwrites all elements of l and its spare capacity.
func fill[T any](l []T, with T) {
	l = l[:cap(l)]
	for i := range l {
		l[i] = with
	}
}

var (
	junkRec = api.Rec{Key: "junk", Value: "junk"}
	junkAll = api.Batch{Base: -9, Producer: -9, Recs: []api.Rec{junkRec}}
)

// spoilt overwrites what was told, with its spare capacity.
func spoilt(bases []int64, l []api.Batch) {
	fill(bases, -9)
	for _, b := range l {
		fill(b.Recs, junkRec)
	}
	fill(l, junkAll)
}

// partition returns a file system with batches in some logs, a start and a mark.
func partition() *files.FS {
	f := divided(mixed(0), 0b010110)
	place.SetStart(f, 2)
	place.SetClean(f, true)
	return f
}

// What is told shares no memory with the file system, nor with what was told ahead of it or behind it.
func TestWhatIsToldIsNotShared(t *testing.T) {
	f := partition()
	was := state(f)
	bases := place.Segments(f)
	start, l := place.Load(f)
	for range 3 {
		more := place.Segments(f)
		_, other := place.Load(f)
		spoilt(more, other)
		if got := state(f); got != was {
			t.Errorf("R2: the files are %s, want %s", got, was)
		}
		if !slices.Equal(bases, []int64{0, 2, 5, 7}) {
			t.Errorf("R2: what Segments told was changed: %d", bases)
		}
		if start != 2 || !slices.EqualFunc(l, mixed(0)[1:], batch.Same) {
			t.Errorf("R2: what Load told was changed: %d, %v", start, l)
		}
		segments(t, "behind what was overwritten", f, 0, 2, 5, 7)
		loads(t, "behind what was overwritten", f, 2, mixed(0)[1:]...)
	}
}

// What was told stays as it is, whatever becomes of the files.
func TestWhatWasToldStays(t *testing.T) {
	f := partition()
	bases := place.Segments(f)
	start, l := place.Load(f)
	place.SetStart(f, 7)
	place.SetClean(f, false)
	lay(f, 11, free(11, 3))
	f.Truncate(logFile(0), 3)
	f.Append(logFile(0), []byte("something else that is long enough to lie where the batches were, and longer than these"))
	f.Remove(logFile(5))
	f.Crash(nil, nil)
	if !slices.Equal(bases, []int64{0, 2, 5, 7}) || start != 2 || !slices.EqualFunc(l, mixed(0)[1:], batch.Same) {
		t.Errorf("R2: what was told was changed: %d, %d, %v", bases, start, l)
	}
}

// No two lists of one answer are the same memory.
func TestListsOfOneAnswerAreApart(t *testing.T) {
	_, l := place.Load(partition())
	want := mixed(0)[1:]
	for i := range l {
		fill(l[i].Recs, junkRec)
		for k := i + 1; k < len(l); k++ {
			if !batch.Same(l[k], want[k]) {
				t.Errorf("R2: batches %d and %d share memory: %v", i, k, l[k])
			}
		}
	}
}

// A copy of the file system is another one: what is set in one is not set in the other, and nothing is kept between the calls.
func TestNothingIsKeptBetweenCalls(t *testing.T) {
	f := partition()
	g := f.Copy()
	place.SetStart(g, 7)
	place.SetClean(g, false)
	lay(g, 11, free(11, 3))
	for range 2 {
		starts(t, "of the first of two", f, 2)
		clean(t, "of the first of two", f, true)
		segments(t, "of the first of two", f, 0, 2, 5, 7)
		loads(t, "of the first of two", f, 2, mixed(0)[1:]...)
		starts(t, "of the second of two", g, 7)
		clean(t, "of the second of two", g, false)
		segments(t, "of the second of two", g, 0, 2, 5, 7, 11)
		loads(t, "of the second of two", g, 7, append(mixed(0)[4:], free(11, 3))...)
	}
}
