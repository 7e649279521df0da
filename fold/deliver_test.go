package fold_test

import (
	"slices"
	"testing"

	"bordereau/api"
	"bordereau/fold"
)

// committed fails the test unless the Committed records are those at these offsets.
func committed(t *testing.T, start int64, l []api.Batch, offsets ...int64) {
	t.Helper()
	tells(t, "P14.2: Committed", fold.Committed(start, l), offsets...)
}

func TestCommitted(t *testing.T) {
	l := mixed()
	want := []int64{5, 6, 8, 9, 10, 12, 18}
	for n, k := range []int{0, 2, 2, 2, 2, 2, 2, 5, 5, 6, 6, 6, 6, 7} {
		committed(t, 5, l[:n], want[:k]...)
	}
}

func TestCommittedOfFewBatches(t *testing.T) {
	committed(t, 5, nil)
	committed(t, 0, []api.Batch{})
	for _, start := range []int64{0, 7} {
		committed(t, start, row(start, free(2)), start, start+1)
		committed(t, start, row(start, data(4, 2)), start, start+1)
		committed(t, start, row(start, begin(4, 2)))
		committed(t, start, row(start, begin(4, 2), commit(4)), start, start+1)
		committed(t, start, row(start, begin(4, 2), abort(4)))
		committed(t, start, row(start, begin(4, 2), begin(4, 1), commit(4)), start, start+1, start+2)
		committed(t, start, row(start, begin(4, 2), begin(4, 1), abort(4)))
		// The marker of a later epoch is one as well, that of another producer is none.
		committed(t, start, row(start, begin(4, 2), in(1, commit(4))), start, start+1)
		committed(t, start, row(start, begin(4, 2), in(1, abort(4))))
		committed(t, start, row(start, begin(4, 2), commit(5), abort(5)))
		// What a marker ends may have begun ahead of start.
		committed(t, start, row(start, abort(4), free(1)), start+1)
		committed(t, start, row(start, abort(4), begin(4, 1), commit(4), abort(4)), start+1)
	}
}

// The next marker of the producer counts, not a later one.
func TestCommittedOfOneProducer(t *testing.T) {
	committed(t, 0, row(0, begin(4, 1), abort(4), begin(4, 1), commit(4)), 2)
	committed(t, 0, row(0, begin(4, 1), commit(4), begin(4, 1), abort(4)), 0)
	committed(t, 0, row(0, begin(4, 1), commit(4), begin(4, 1)), 0)
	committed(t, 0, row(0, begin(4, 1), abort(4), begin(4, 1)))
	// Ahead of a transaction and behind it a record belongs to none.
	committed(t, 0, row(0, data(4, 1), begin(4, 1), abort(4), data(4, 1)), 0, 3)
	committed(t, 0, row(0, data(4, 1), begin(4, 1), commit(4), data(4, 1), abort(4)), 0, 1, 3)
}

func TestCommittedOfSeveralProducers(t *testing.T) {
	l := []api.Batch{begin(1, 1), free(1), begin(2, 1), data(3, 1), begin(1, 1)}
	committed(t, 0, row(0, append(l, abort(1), commit(2))...), 1, 2, 3)
	committed(t, 0, row(0, append(l, commit(1), abort(2))...), 0, 1, 3, 4)
	committed(t, 0, row(0, append(l, abort(2), commit(1))...), 0, 1, 3, 4)
	committed(t, 0, row(0, append(l, commit(1), commit(2))...), 0, 1, 2, 3, 4)
	committed(t, 0, row(0, append(l, abort(1), abort(2))...), 1, 3)
	// What is committed is told only as far as it is ahead of all that is open.
	committed(t, 0, row(0, append(l, commit(1))...), 0, 1)
	committed(t, 0, row(0, append(l, abort(1))...), 1)
	committed(t, 0, row(0, append(l, commit(2))...))
	committed(t, 0, row(0, free(1), begin(1, 1), free(1)), 0)
}

// A record between the first offset of an aborted transaction of its producer and the marker is delivered to nobody, so it belongs to it, though its batch does not say so.
func TestCommittedOfDataWithinATransaction(t *testing.T) {
	committed(t, 0, row(0, begin(4, 1), data(4, 1), abort(4)))
	committed(t, 0, row(0, begin(4, 1), data(4, 1), commit(4)), 0, 1)
	committed(t, 0, row(0, begin(4, 1), data(4, 1)))
	committed(t, 0, row(0, begin(4, 1), data(5, 1), abort(4)), 1)
}

// delivers fails the test unless Deliver returns those of the records that have these indices.
func delivers(t *testing.T, f api.Fetch, indices ...int) {
	t.Helper()
	var want []api.Got
	for _, i := range indices {
		want = append(want, f.Recs[i])
	}
	if got := fold.Deliver(f); !slices.Equal(got, want) {
		t.Errorf("P14.2: Deliver(%v): %v, want %v", f, got, want)
	}
}

// gots returns records, of which two numbers each are the offset and the producer.
func gots(l ...int64) []api.Got {
	var out []api.Got
	for c := range slices.Chunk(l, 2) {
		out = append(out, api.Got{Offset: c[0], Producer: c[1], Rec: rec(c[0], c[1])})
	}
	return out
}

func TestDeliverWithoutAborted(t *testing.T) {
	delivers(t, api.Fetch{})
	delivers(t, api.Fetch{Aborted: []api.Dropped{}})
	delivers(t, api.Fetch{Aborted: drops(1, 0, 9), Next: 5, Stable: 7})
	f := api.Fetch{Recs: gots(5, 1, 6, -1, 7, 2), Next: 8, Stable: 9}
	delivers(t, f, 0, 1, 2)
	f.Aborted = []api.Dropped{}
	delivers(t, f, 0, 1, 2)
	// Next and Stable make no difference.
	f.Next, f.Stable = least, most
	delivers(t, f, 0, 1, 2)
	f.Next, f.Stable = 6, 5
	delivers(t, f, 0, 1, 2)
}

func TestDeliverAtTheEdges(t *testing.T) {
	// One ahead of First, First, one between, Last and one behind it.
	recs := gots(4, 7, 5, 7, 6, 7, 9, 7, 10, 7)
	delivers(t, api.Fetch{Recs: recs, Aborted: drops(7, 5, 9)}, 0, 4)
	delivers(t, api.Fetch{Recs: recs, Aborted: drops(8, 5, 9)}, 0, 1, 2, 3, 4)
	delivers(t, api.Fetch{Recs: recs, Aborted: drops(6, 5, 9, -7, 5, 9)}, 0, 1, 2, 3, 4)
	delivers(t, api.Fetch{Recs: recs, Aborted: drops(7, 6, 6)}, 0, 1, 3, 4)
	delivers(t, api.Fetch{Recs: recs, Aborted: drops(7, 0, 4)}, 1, 2, 3, 4)
	delivers(t, api.Fetch{Recs: recs, Aborted: drops(7, 10, 11)}, 0, 1, 2, 3)
	delivers(t, api.Fetch{Recs: recs, Aborted: drops(7, 11, 20)}, 0, 1, 2, 3, 4)
	delivers(t, api.Fetch{Recs: recs, Aborted: drops(7, 9, 5)}, 0, 1, 2, 3, 4)
	delivers(t, api.Fetch{Recs: recs, Aborted: drops(7, least, most)})
	delivers(t, api.Fetch{Recs: gots(least, 7, most, 7, least, 0, most, 0), Aborted: drops(7, least, least, 0, most, most)}, 1, 2)
}

func TestDeliverOfSeveral(t *testing.T) {
	recs := gots(5, 1, 6, 2, 7, 1, 8, -1, 9, 2, 10, 3, 11, 1)
	delivers(t, api.Fetch{Recs: recs, Aborted: drops(1, 5, 8)}, 1, 3, 4, 5, 6)
	// In whatever order they stand, and side by side.
	delivers(t, api.Fetch{Recs: recs, Aborted: drops(1, 5, 8, 2, 6, 12)}, 3, 5, 6)
	delivers(t, api.Fetch{Recs: recs, Aborted: drops(2, 6, 12, 1, 5, 8)}, 3, 5, 6)
	delivers(t, api.Fetch{Recs: recs, Aborted: drops(1, 5, 6, 1, 11, 12)}, 1, 2, 3, 4, 5)
	delivers(t, api.Fetch{Recs: recs, Aborted: drops(1, 11, 12, 1, 5, 6)}, 1, 2, 3, 4, 5)
	delivers(t, api.Fetch{Recs: recs, Aborted: drops(0, 0, 99, 3, 10, 10)}, 0, 1, 2, 3, 4, 6)
	// Records stay in their order, which need not be that of their offsets, and as often as they are there.
	delivers(t, api.Fetch{Recs: gots(9, 1, 3, 2, 9, 1, 3, 1), Aborted: drops(2, 0, 5)}, 0, 2, 3)
}

// A record without a producer belongs to no transaction, not even to one of no producer.
func TestDeliverOfNoProducer(t *testing.T) {
	recs := gots(5, -1, 6, 1, 7, -1, 8, -2)
	delivers(t, api.Fetch{Recs: recs, Aborted: drops(-1, 0, 99)}, 0, 1, 2, 3)
	delivers(t, api.Fetch{Recs: recs, Aborted: drops(-1, 5, 7, 1, 5, 7)}, 0, 2, 3)
	delivers(t, api.Fetch{Recs: recs, Aborted: drops(-1, least, most, -2, 8, 8)}, 0, 1, 2)
}
