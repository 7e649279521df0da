package aborts_test

import (
	"math/rand/v2"
	"slices"
	"testing"

	"bordereau/aborts"
	"bordereau/api"
	"bordereau/table"
)

// data returns data of a producer with that many records.
func data(base, id int64, epoch int, seq int64, txn bool, records int) api.Batch {
	return api.Batch{Base: base, Producer: id, Epoch: epoch, Seq: seq, Txn: txn, Recs: make([]api.Rec, records)}
}

// free returns data of no producer.
func free(base int64, records int) api.Batch {
	return data(base, -1, -1, -1, false, records)
}

// marker returns a marker of that kind.
func marker(base, id int64, epoch, kind int) api.Batch {
	return api.Batch{Base: base, Producer: id, Epoch: epoch, Seq: -1, Txn: true, Marker: kind}
}

// begin returns data that begins a transaction if none is open.
func begin(base, id int64) api.Batch {
	return data(base, id, 0, 0, true, 1)
}

// commit returns a marker that commits.
func commit(base, id int64) api.Batch {
	return marker(base, id, 0, api.Commit)
}

// abort returns a marker that aborts.
func abort(base, id int64) api.Batch {
	return marker(base, id, 0, api.Abort)
}

// applied returns what table.Apply returns batch by batch.
func applied(l []api.Batch) []api.Dropped {
	var out []api.Dropped
	t := table.New()
	for _, b := range l {
		if d, ok := t.Apply(b); ok {
			out = append(out, d)
		}
	}
	return out
}

// ofIs fails the test unless Of is a list of these transactions, and what table.Apply returns.
func ofIs(t *testing.T, l []api.Batch, want ...api.Dropped) *aborts.Row {
	t.Helper()
	r := aborts.Of(l)
	allAre(t, r, want...)
	allAre(t, r, applied(l)...)
	return r
}

func TestOfOrdinaryBatches(t *testing.T) {
	ofIs(t, nil)
	ofIs(t, []api.Batch{})
	ofIs(t, []api.Batch{free(0, 3), free(3, 1)})
	l := []api.Batch{begin(0, 4), begin(1, 9), free(2, 3), data(5, 4, 0, 1, true, 2), abort(7, 4), begin(8, 4), commit(9, 9), begin(10, 9), abort(11, 9), abort(12, 4)}
	want := of(4, 0, 7, 9, 10, 11, 4, 8, 12)
	for n, k := range []int{0, 0, 0, 0, 0, 1, 1, 1, 1, 2, 3} {
		ofIs(t, l[:n], want[:k]...)
	}
	ofIs(t, []api.Batch{begin(0, 0), abort(1, 0)}, of(0, 0, 1)...)
	ofIs(t, []api.Batch{begin(0, most), abort(api.MaxOffset, most)}, of(most, 0, api.MaxOffset)...)
}

func TestOfBatchesThatAbortNothing(t *testing.T) {
	ofIs(t, []api.Batch{begin(0, 4)})
	ofIs(t, []api.Batch{begin(0, 4), commit(1, 4)})
	ofIs(t, []api.Batch{begin(0, 4), commit(1, 4), abort(2, 4)})
	// Of a producer that is not known, and of one that has nothing open.
	ofIs(t, []api.Batch{abort(0, 4)})
	ofIs(t, []api.Batch{abort(0, 4), abort(1, 4)})
	ofIs(t, []api.Batch{begin(0, 5), abort(1, 4)})
	ofIs(t, []api.Batch{data(0, 4, 0, 0, false, 1), abort(1, 4)})
	ofIs(t, []api.Batch{begin(0, 4), abort(1, 4), abort(2, 4)}, of(4, 0, 1)...)
	ofIs(t, []api.Batch{free(0, 1), abort(1, 4), begin(2, 4), data(3, 4, 0, 1, false, 1), abort(4, 4)}, of(4, 2, 4)...)
}

func TestOfBatchesThatAreNotValid(t *testing.T) {
	for _, b := range []api.Batch{
		{}, begin(-1, 4), begin(api.MaxOffset+1, 4), begin(0, -2), data(0, 4, -1, 0, true, 1), data(0, 4, 0, -1, true, 1), data(0, 4, 0, 0, true, 0),
		data(0, 4, 0, 0, true, 17), data(0, -1, -1, -1, true, 1), marker(0, 4, 0, 3), marker(0, 4, 0, -1),
	} {
		ofIs(t, []api.Batch{b})
		// It begins nothing, so there is nothing to abort.
		ofIs(t, []api.Batch{b, abort(1, 4)})
		ofIs(t, []api.Batch{begin(0, 4), b, abort(3, 4), b}, of(4, 0, 3)...)
	}
	for _, b := range []api.Batch{abort(-1, 4), abort(api.MaxOffset+1, 4), abort(least, 4), abort(most, 4), abort(1, -1), marker(1, 4, -1, api.Abort), marker(1, 4, api.MaxEpoch+1, api.Abort)} {
		ofIs(t, []api.Batch{begin(0, 4), b})
		ofIs(t, []api.Batch{begin(0, 4), b, abort(5, 4)}, of(4, 0, 5)...)
	}
	b := abort(1, 4)
	b.Txn = false
	ofIs(t, []api.Batch{begin(0, 4), b})
	b = abort(1, 4)
	b.Recs = make([]api.Rec, 1)
	ofIs(t, []api.Batch{begin(0, 4), b})
}

// What table.Check would refuse is applied all the same.
func TestOfBatchesThatCheckRefuses(t *testing.T) {
	ofIs(t, []api.Batch{data(0, 4, 3, 9, true, 1), marker(1, 4, 2, api.Abort)}, of(4, 0, 1)...)
	ofIs(t, []api.Batch{data(0, 4, 3, 9, true, 1), marker(1, 4, 7, api.Abort)}, of(4, 0, 1)...)
	ofIs(t, []api.Batch{data(0, 4, 3, 9, true, 1), data(1, 4, 5, 2, true, 1), marker(2, 4, 5, api.Abort)}, of(4, 0, 2)...)
}

// Bases that do not ascend lead to transactions that Add would refuse, and they are in the list as well.
func TestOfBasesThatDoNotAscend(t *testing.T) {
	ofIs(t, []api.Batch{begin(0, 4), abort(0, 4)}, of(4, 0, 0)...)
	ofIs(t, []api.Batch{begin(5, 4), abort(0, 4)}, of(4, 5, 0)...)
	l := []api.Batch{begin(5, 1), abort(9, 1), begin(2, 2), abort(7, 2), begin(8, 3), abort(8, 3), begin(6, 4), abort(3, 4), begin(1, 5), abort(9, 5)}
	want := of(1, 5, 9, 2, 2, 7, 3, 8, 8, 4, 6, 3, 5, 1, 9)
	for n := range l {
		ofIs(t, l[:n], want[:n/2]...)
	}
	r := ofIs(t, l, want...)
	bytesAre(t, r, written(want)...)
	corrupt(t, "transactions that Add refuses", r.Bytes())
	// One that ends ahead of where it begins contains no offset.
	for from := int64(-1); from < 12; from++ {
		for to := int64(-1); to < 12; to++ {
			withins(t, r, from, to, those(want, func(d api.Dropped) bool { return has(d, from, to) })...)
		}
	}
	withins(t, r, least, most, slices.Concat(want[:3], want[4:])...)
	for n := int64(-1); n < 12; n++ {
		r := aborts.Of(l)
		r.Cut(n)
		left := those(want, func(d api.Dropped) bool { return d.Last < n })
		allAre(t, r, left...)
		follows(t, r, left)
		r = aborts.Of(l)
		r.Start(n)
		left = those(want, func(d api.Dropped) bool { return d.Last >= n })
		allAre(t, r, left...)
		follows(t, r, left)
	}
	follows(t, r, want)
}

// follows fails the test unless Add asks for a Last that is greater than that of all transactions of l, which r has, wherever they stand.
func follows(t *testing.T, r *aborts.Row, l []api.Dropped) {
	t.Helper()
	last := int64(0)
	for _, d := range l {
		last = max(last, d.Last)
	}
	for n := range last + 1 {
		refuses(t, r, api.Dropped{Producer: 6, First: 0, Last: n})
	}
	adds(t, r, api.Dropped{Producer: 6, First: 0, Last: last + 1})
}

// ended returns the transaction that the last batch of l, which is valid, aborts, and true: it looks for where it began, backwards.
func ended(l []api.Batch) (api.Dropped, bool) {
	b := l[len(l)-1]
	if b.Marker != api.Abort {
		return api.Dropped{}, false
	}
	d := api.Dropped{Producer: b.Producer, First: -1, Last: b.Base}
	for i := len(l) - 2; i >= 0; i-- {
		if l[i].Producer != b.Producer {
			continue
		}
		if l[i].Marker != 0 {
			break
		}
		if l[i].Txn {
			d.First = l[i].Base
		}
	}
	return d, d.First >= 0
}

// history returns batches with ascending bases of a few producers, all valid.
func history(r *rand.Rand) []api.Batch {
	var l []api.Batch
	base := r.Int64N(3)
	for range r.IntN(40) {
		id, epoch := r.Int64N(3), r.IntN(2)
		switch r.IntN(5) {
		case 0:
			l = append(l, free(base, 1+r.IntN(3)))
		case 1:
			l = append(l, marker(base, id, epoch, api.Commit))
		case 2:
			l = append(l, marker(base, id, epoch, api.Abort))
		default:
			l = append(l, data(base, id, epoch, r.Int64N(9), r.IntN(2) == 0, 1+r.IntN(3)))
		}
		base += 1 + r.Int64N(4)
	}
	return l
}

func TestOfHistories(t *testing.T) {
	r := rand.New(rand.NewPCG(13, 1))
	for range 400 {
		l := history(r)
		var want []api.Dropped
		for n := range l {
			if d, ok := ended(l[:n+1]); ok {
				want = append(want, d)
			}
		}
		x := ofIs(t, l, want...)
		// With ascending bases, it is a list as Add makes them.
		reads(t, x.Bytes(), want...)
		row(t, want)
	}
}
