package fold_test

import (
	"math"
	"slices"
	"strconv"
	"testing"

	"bordereau/api"
	"bordereau/fold"
)

const (
	least = math.MinInt64
	most  = math.MaxInt64
)

// data returns data of a producer with that many records, of no transaction.
func data(id int64, records int) api.Batch {
	return api.Batch{Producer: id, Recs: make([]api.Rec, records)}
}

// begin returns data of a transaction, which it begins if none is open.
func begin(id int64, records int) api.Batch {
	b := data(id, records)
	b.Txn = true
	return b
}

// free returns data of no producer.
func free(records int) api.Batch {
	return api.Batch{Producer: -1, Epoch: -1, Recs: make([]api.Rec, records)}
}

// marker returns a marker of that kind.
func marker(id int64, kind int) api.Batch {
	return api.Batch{Producer: id, Seq: -1, Txn: true, Marker: kind}
}

// commit returns a marker that commits.
func commit(id int64) api.Batch { return marker(id, api.Commit) }

// abort returns a marker that aborts.
func abort(id int64) api.Batch { return marker(id, api.Abort) }

// in returns b in another epoch.
func in(epoch int, b api.Batch) api.Batch {
	b.Epoch = epoch
	return b
}

// rec is the record of that producer at that offset: it tells both.
func rec(at, id int64) api.Rec {
	return api.Rec{Key: strconv.FormatInt(at, 10), Value: "of " + strconv.FormatInt(id, 10)}
}

// row returns the batches one behind the other, the first at start, with the sequence numbers and the records that they have there.
func row(start int64, l ...api.Batch) []api.Batch {
	seqs := map[[2]int64]int64{}
	var out []api.Batch
	for _, b := range l {
		b.Base = start
		start += max(int64(len(b.Recs)), int64(min(b.Marker, 1)))
		b.Recs = slices.Clone(b.Recs)
		for i := range b.Recs {
			b.Recs[i] = rec(b.Base+int64(i), b.Producer)
		}
		if b.Marker == 0 {
			of := [2]int64{b.Producer, int64(b.Epoch)}
			b.Seq = seqs[of]
			seqs[of] += int64(len(b.Recs))
		}
		if b.Producer == -1 {
			b.Seq = -1
		}
		out = append(out, b)
	}
	return out
}

// tells fails the test unless l are the records at these offsets, whole.
func tells(t *testing.T, what string, l []api.Got, offsets ...int64) {
	t.Helper()
	var at []int64
	for _, g := range l {
		at = append(at, g.Offset)
		if g.Rec != rec(g.Offset, g.Producer) {
			t.Errorf("%s: the record %v at %d, of %d", what, g.Rec, g.Offset, g.Producer)
		}
	}
	if !slices.Equal(at, offsets) {
		t.Errorf("%s: records at %v, want %v", what, at, offsets)
	}
}

// ends fails the test unless these are End and Stable.
func ends(t *testing.T, start int64, l []api.Batch, end, stable int64) {
	t.Helper()
	if got := fold.End(start, l); got != end {
		t.Errorf("P14.1: End(%d, %v): %d, want %d", start, l, got, end)
	}
	if got := fold.Stable(start, l); got != stable {
		t.Errorf("P14.1: Stable(%d, %v): %d, want %d", start, l, got, stable)
	}
}

// records fails the test unless Records are those at these offsets.
func records(t *testing.T, start int64, l []api.Batch, from, to int64, offsets ...int64) {
	t.Helper()
	tells(t, "P14.1: Records", fold.Records(start, l, from, to), offsets...)
}

// mixed is a row with all that there is: its first twelve batches end at 22, with a transaction open from 14 on, which the last one aborts.
func mixed() []api.Batch {
	return row(5,
		free(2),     // 5, 6
		begin(1, 1), // 7
		begin(2, 2), // 8, 9
		data(3, 1),  // 10
		abort(1),    // 11
		begin(1, 1), // 12
		commit(2),   // 13
		begin(2, 3), // 14, 15, 16
		commit(1),   // 17
		free(1),     // 18
		begin(3, 2), // 19, 20
		abort(3),    // 21
		abort(2),    // 22
	)
}

func TestEndAndStable(t *testing.T) {
	l := mixed()
	stable := []int64{5, 7, 7, 7, 7, 8, 8, 12, 12, 14, 14, 14, 14, 23}
	for n, end := range []int64{5, 7, 8, 10, 11, 12, 13, 14, 17, 18, 19, 21, 22, 23} {
		ends(t, 5, l[:n], end, stable[n])
	}
}

func TestEndAndStableOfNoBatches(t *testing.T) {
	// The chapter's example is the first one.
	for _, start := range []int64{5, 0, 1, 99, api.MaxOffset} {
		ends(t, start, nil, start, start)
		ends(t, start, []api.Batch{}, start, start)
	}
}

func TestEndAndStableOfOneBatch(t *testing.T) {
	for _, start := range []int64{0, 1, 7, 1 << 39} {
		ends(t, start, row(start, free(1)), start+1, start+1)
		ends(t, start, row(start, free(16)), start+16, start+16)
		ends(t, start, row(start, data(4, 3)), start+3, start+3)
		ends(t, start, row(start, begin(4, 1)), start+1, start)
		ends(t, start, row(start, begin(0, 5)), start+5, start)
		// What they end began ahead of start.
		ends(t, start, row(start, commit(4)), start+1, start+1)
		ends(t, start, row(start, abort(4)), start+1, start+1)
	}
}

func TestStableOfOneTransaction(t *testing.T) {
	for _, end := range []api.Batch{commit(4), abort(4), in(1, commit(4)), in(3, abort(4))} {
		l := row(3, free(1), begin(4, 2), free(2), begin(4, 1), end, free(1))
		for n, want := range []int64{3, 4, 4, 4, 4, 10, 11} {
			ends(t, 3, l[:n], []int64{3, 4, 6, 8, 9, 10, 11}[n], want)
		}
	}
	// The marker of another producer ends nothing.
	ends(t, 0, row(0, begin(4, 2), commit(5), abort(0)), 4, 0)
	// Behind its end the producer has no transaction, until it begins another one.
	ends(t, 0, row(0, begin(4, 2), commit(4), data(4, 2), begin(4, 1)), 6, 5)
	ends(t, 0, row(0, begin(4, 2), abort(4), abort(4)), 4, 4)
}

// Of several that are open, the one that began first counts, whoever's it is and in whatever order they end.
func TestStableOfSeveralTransactions(t *testing.T) {
	for _, ids := range [][3]int64{{1, 2, 3}, {3, 2, 1}, {2, 0, most}, {most, 5, 0}} {
		l := []api.Batch{free(1), begin(ids[0], 2), begin(ids[1], 1), begin(ids[2], 3)}
		first := []int64{1, 3, 4}
		for _, kinds := range [][3]int{{1, 1, 1}, {2, 2, 2}, {1, 2, 1}, {2, 1, 2}} {
			for _, order := range [][3]int{{0, 1, 2}, {0, 2, 1}, {1, 0, 2}, {1, 2, 0}, {2, 0, 1}, {2, 1, 0}} {
				open, m := slices.Clone(first), slices.Clone(l)
				ends(t, 0, row(0, m...), 7, 1)
				for i, k := range order {
					m, open[k] = append(m, marker(ids[k], kinds[k])), most
					ends(t, 0, row(0, m...), int64(8+i), min(int64(8+i), slices.Min(open)))
				}
			}
		}
	}
}

func TestRecords(t *testing.T) {
	l := mixed()
	all := []int64{5, 6, 7, 8, 9, 10, 12, 14, 15, 16, 18, 19, 20}
	for _, from := range []int64{least, -1, 0, 4, 5} {
		for _, to := range []int64{21, 22, 23, 24, 100, most} {
			records(t, 5, l, from, to, all...)
		}
	}
	for from := int64(3); from < 26; from++ {
		for to := int64(3); to < 26; to++ {
			var want []int64
			for _, at := range all {
				if from <= at && at < to {
					want = append(want, at)
				}
			}
			records(t, 5, l, from, to, want...)
		}
	}
}

func TestRecordsAtTheirEdges(t *testing.T) {
	l := mixed()
	// A batch's first offset, one inside it, its last, and that of what follows it.
	records(t, 5, l, 14, 15, 14)
	records(t, 5, l, 14, 16, 14, 15)
	records(t, 5, l, 15, 16, 15)
	records(t, 5, l, 15, 17, 15, 16)
	records(t, 5, l, 16, 17, 16)
	records(t, 5, l, 16, 18, 16)
	records(t, 5, l, 13, 14)
	// A marker's offset has no record.
	records(t, 5, l, 11, 12)
	records(t, 5, l, 11, 13, 12)
	records(t, 5, l, 10, 11, 10)
	records(t, 5, l, 10, 12, 10)
	records(t, 5, l, 17, 19, 18)
	records(t, 5, l, 21, 23)
	// From at to, behind it, behind End, and ahead of the first batch.
	for _, at := range []int64{least, 0, 5, 6, 11, 14, 22, 23, most} {
		records(t, 5, l, at, at)
	}
	records(t, 5, l, 9, 8)
	records(t, 5, l, 20, 6)
	records(t, 5, l, most, least)
	records(t, 5, l, 23, 40)
	records(t, 5, l, 22, most)
	records(t, 5, l, least, 5)
	records(t, 5, l, 0, 6, 5)
}

func TestRecordsOfFewBatches(t *testing.T) {
	records(t, 5, nil, least, most)
	records(t, 0, []api.Batch{}, 0, 9)
	records(t, 0, row(0, free(1)), 0, 1, 0)
	records(t, 0, row(0, free(1)), 1, 2)
	records(t, 7, row(7, begin(4, 3)), 0, 99, 7, 8, 9)
	records(t, 7, row(7, data(4, 3)), 8, 9, 8)
	records(t, 0, row(0, commit(4)), 0, 9)
	records(t, 3, row(3, abort(4), commit(4)), 0, 9)
	// Only data has records, and data of a transaction is told whatever became of it.
	records(t, 0, row(0, begin(1, 1), abort(1), begin(2, 1), commit(2), begin(3, 1)), 0, 99, 0, 2, 4)
}

func TestRecordsTellProducersAndTexts(t *testing.T) {
	b := api.Batch{Base: 30, Producer: 9, Epoch: 2, Seq: 5, Recs: []api.Rec{{}, {Key: "a", Value: "b"}, {Key: "a", Value: "b"}, {Value: "世\xff"}}}
	f := api.Batch{Base: 34, Producer: -1, Epoch: -1, Seq: -1, Recs: []api.Rec{{Key: "a"}}}
	want := []api.Got{{Offset: 31, Producer: 9, Rec: b.Recs[1]}, {Offset: 32, Producer: 9, Rec: b.Recs[2]}, {Offset: 33, Producer: 9, Rec: b.Recs[3]}, {Offset: 34, Producer: -1, Rec: f.Recs[0]}}
	if got := fold.Records(30, []api.Batch{b, f}, 31, 35); !slices.Equal(got, want) {
		t.Errorf("P14.1: Records: %v, want %v", got, want)
	}
}
