package model

import (
	"math"
	"strings"
	"testing"

	"bordereau/api"
	"bordereau/batch"
)

func TestNew(t *testing.T) {
	for _, c := range []api.Config{roomy, {}, {Cap: 1}, {SegBytes: -1, IndexEvery: -1, SnapEvery: -1, Cap: -1}, {SegBytes: math.MinInt, IndexEvery: math.MinInt, SnapEvery: math.MinInt, Cap: math.MinInt}, {SegBytes: math.MaxInt, IndexEvery: math.MaxInt, SnapEvery: math.MaxInt, Cap: math.MaxInt}} {
		l := New(c)
		holds(t, "P15.1: New", l, 0, nil, nil)
		for _, only := range []bool{false, true} {
			if f, why := l.Fetch(0, 1, only); why != api.OK || !same(f, api.Fetch{}) {
				t.Errorf("P15.1: Fetch of no batches: %v, %d", f, int(why))
			}
		}
	}
}

func TestProduce(t *testing.T) {
	l := filled(t, roomy, 0, mixed()...)
	holds(t, "P15.1: Produce and Mark", l, 0, row(0, mixed()...), mixedStates())
	for n := range mixed() {
		l := filled(t, roomy, 0, mixed()[:n]...)
		holds(t, "P15.1: Produce and Mark", l, 0, row(0, mixed()[:n]...), l.Producers())
	}
}

func TestProduceIgnoresTheBase(t *testing.T) {
	l := New(roomy)
	end := int64(0)
	for i, base := range []int64{least, -1 << 41, -2, -1, 0, 1, 2, 77, api.MaxOffset - 1, api.MaxOffset, api.MaxOffset + 1, most} {
		// Each is at an offset of its own, whatever it says.
		for _, b := range []api.Batch{free(2), data(5, 0, int64(i), false, 1)} {
			if got, why := l.Produce(at(base, b)); got != end || why != api.OK {
				t.Errorf("P15.1: Produce with the base %d: %d, %d, want %d, 0", base, got, int(why), end)
			}
			end += int64(len(b.Recs))
		}
		repeats(t, l, at(base, data(5, 0, int64(i), false, 1)), end-1)
		refuses(t, l, at(base, api.Batch{}), api.ErrCorrupt)
	}
	for i, b := range l.Batches() {
		if want := int64(i/2*3 + i%2*2); b.Base != want {
			t.Errorf("P15.1: batch %d is at %d, want %d", i, b.Base, want)
		}
	}
}

// Data of no producer is never known again.
func TestProduceOfNoProducer(t *testing.T) {
	l := New(roomy)
	for n := 1; n <= api.MaxRecords; n++ {
		adds(t, l, free(n))
		adds(t, l, free(n))
	}
	if len(l.Producers()) != 0 {
		t.Errorf("P15.1: Producers of data of none: %v", l.Producers())
	}
}

// Each of the latest five is known again, the one ahead of them is not (W3).
func TestProduceAgain(t *testing.T) {
	for _, txn := range []bool{false, true} {
		l := New(roomy)
		for i := range int64(12) {
			b := data(7, 2, 100+2*i, txn, 2)
			adds(t, l, b)
			for k := range i + 1 {
				again := data(7, 2, 100+2*k, txn, 2)
				if i-k < 5 {
					repeats(t, l, again, 2*k)
				} else {
					refuses(t, l, again, api.ErrOrder)
				}
			}
		}
	}
}

// A batch is known by its producer, its epoch and its numbers; what else it says does not count.
func TestProduceAgainWithOtherFields(t *testing.T) {
	l := filled(t, roomy, 0, free(3), data(7, 2, 9, true, 2))
	b := data(7, 2, 9, false, 2)
	b.Recs = []api.Rec{{Key: "other"}, {Value: "other"}}
	repeats(t, l, b, 3)
	refuses(t, l, data(7, 2, 9, true, 1), api.ErrOrder)
	refuses(t, l, data(7, 2, 9, true, 3), api.ErrOrder)
	refuses(t, l, data(7, 2, 10, true, 2), api.ErrOrder)
	refuses(t, l, data(7, 1, 9, true, 2), api.ErrFenced)
	refuses(t, l, data(7, 3, 9, true, 2), api.ErrTxn)
	adds(t, l, data(8, 2, 9, true, 2))
	repeats(t, l, data(8, 2, 9, true, 2), 5)
}

func TestProduceOrder(t *testing.T) {
	l := New(roomy)
	// Nothing is known of it, so any number may be its first one.
	adds(t, l, data(1, 0, api.MaxSeq, false, 2))
	refuses(t, l, data(1, 0, 2, false, 1), api.ErrOrder)
	refuses(t, l, data(1, 0, 0, false, 1), api.ErrOrder)
	refuses(t, l, data(1, 0, api.MaxSeq, false, 1), api.ErrOrder)
	adds(t, l, data(1, 0, 1, false, 1))
	// A later epoch begins at 0.
	refuses(t, l, data(1, 1, 2, false, 1), api.ErrOrder)
	refuses(t, l, data(1, 1, 1, false, 1), api.ErrOrder)
	adds(t, l, data(1, 1, 0, false, 1))
	refuses(t, l, data(1, 0, 1, false, 1), api.ErrFenced)
	refuses(t, l, data(1, 0, 2, false, 1), api.ErrFenced)
	adds(t, l, data(1, api.MaxEpoch, 0, false, 1))
	refuses(t, l, data(1, api.MaxEpoch-1, 0, false, 1), api.ErrFenced)
	refuses(t, l, data(1, api.MaxEpoch+1, 0, false, 1), api.ErrCorrupt)
}

func TestProduceInTransactions(t *testing.T) {
	l := filled(t, roomy, 0, data(1, 0, 0, false, 1), data(1, 0, 1, true, 2))
	refuses(t, l, data(1, 0, 3, false, 1), api.ErrTxn)
	refuses(t, l, data(1, 1, 0, true, 1), api.ErrTxn)
	repeats(t, l, data(1, 0, 0, false, 1), 0)
	adds(t, l, data(1, 0, 3, true, 1))
	adds(t, l, data(2, 0, 0, false, 1))
	holds(t, "P15.1: in a transaction", l, 0, l.Batches(), []api.Producer{state(1, 0, 1, [3]int64{0, 0, 0}, [3]int64{1, 2, 1}, [3]int64{3, 3, 3}), state(2, 0, -1, [3]int64{0, 0, 4})})
	marks(t, l, 1, 0, api.Abort)
	adds(t, l, data(1, 0, 4, false, 1))
	adds(t, l, data(1, 1, 0, true, 1))
}

func TestProduceOfMarkers(t *testing.T) {
	for _, kind := range []int{api.Commit, api.Abort} {
		l := filled(t, roomy, 0, data(1, 3, 0, true, 1))
		refuses(t, l, marker(1, 3, kind), api.ErrTxn)
		refuses(t, l, marker(9, 0, kind), api.ErrTxn)
		refuses(t, l, at(most, marker(1, 3, kind)), api.ErrTxn)
		// What Mark refuses for another reason is a marker in the first place.
		refuses(t, l, marker(1, 2, kind), api.ErrTxn)
	}
}

// wrongBatches are batches that are not valid, each with its error. None of them is so because of its base.
func wrongBatches() map[api.Errno][]api.Batch {
	long := strings.Repeat("x", api.MaxText+1)
	key, value, full := data(1, 0, 0, true, 2), free(2), marker(1, 0, api.Commit)
	key.Recs[1].Key, value.Recs[1].Value, full.Recs = long, long, recs(1)
	plain, numbered, nobody, epochs := marker(1, 0, api.Abort), marker(1, 0, api.Abort), free(1), free(1)
	plain.Txn, numbered.Seq, nobody.Txn, epochs.Epoch = false, 0, true, 0
	return map[api.Errno][]api.Batch{
		api.ErrCorrupt: {{}, free(0), data(1, 0, 0, true, 0), data(-2, 0, 0, true, 1), data(-1, 0, 0, false, 1), data(least, 0, 0, false, 1), data(1, -1, 0, true, 1), data(1, api.MaxEpoch+1, 0, true, 1), data(1, 0, -1, true, 1), data(1, 0, api.MaxSeq+1, true, 1), nobody, epochs,
			marker(1, 0, 3), marker(1, 0, -1), marker(1, 0, math.MinInt), marker(1, 0, math.MaxInt), marker(-1, 0, api.Commit), marker(1, -1, api.Abort), marker(1, api.MaxEpoch+1, api.Abort), full, plain, numbered},
		api.ErrLarge: {data(1, 0, 0, true, api.MaxRecords+1), free(api.MaxRecords + 1), key, value},
	}
}

func TestProduceOfBatchesThatAreNotValid(t *testing.T) {
	for why, l := range wrongBatches() {
		for _, b := range l {
			for _, base := range []int64{0, -1, 5, least, most} {
				refuses(t, New(roomy), at(base, b), why)
				// The first error counts, also where nothing could be appended, and where it would be a marker.
				refuses(t, New(api.Config{}), at(base, b), why)
				refuses(t, filled(t, roomy, api.MaxOffset-1, data(1, 0, 0, true, 1)), at(base, b), why)
				refuses(t, filled(t, roomy, 3, data(1, 5, 0, true, 1)), at(base, b), why)
			}
		}
	}
}

func TestFull(t *testing.T) {
	for _, b := range []api.Batch{free(1), free(16), data(1, 0, 0, true, 3)} {
		n := batch.Size(b)
		for _, c := range []struct{ room, fits int }{{n - 1, 0}, {n, 1}, {n + 1, 1}, {2*n - 1, 1}, {2 * n, 2}, {2*n + 1, 2}, {5*n - 1, 4}, {1, 0}, {0, 0}, {-1, 0}, {-n, 0}, {math.MinInt, 0}, {math.MinInt + n, 0}} {
			l := New(api.Config{Cap: c.room})
			for range c.fits {
				adds(t, l, b)
				if b.Producer >= 0 {
					b.Seq = (b.Seq + int64(len(b.Recs))) % (api.MaxSeq + 1)
				}
			}
			refuses(t, l, b, api.ErrFull)
			refuses(t, l, b, api.ErrFull)
		}
	}
	l := New(api.Config{Cap: math.MaxInt})
	for range 100 {
		adds(t, l, free(16))
	}
}

// What does not fit leaves room for what is smaller.
func TestFullForTheGreaterOnes(t *testing.T) {
	small, great := free(1), free(9)
	l := New(api.Config{Cap: batch.Size(great) + batch.Size(small)})
	adds(t, l, great)
	refuses(t, l, great, api.ErrFull)
	refuses(t, l, free(2), api.ErrFull)
	adds(t, l, small)
	refuses(t, l, small, api.ErrFull)
}

// Only Cap counts, of the whole configuration (W1, W5).
func TestOnlyCapCounts(t *testing.T) {
	n := batch.Size(free(1))
	for _, other := range []int{math.MinInt, -1, 0, 1, n - 1, math.MaxInt} {
		l := New(api.Config{SegBytes: other, IndexEvery: other, SnapEvery: other, Cap: 3 * n})
		for range 3 {
			adds(t, l, free(1))
		}
		refuses(t, l, free(1), api.ErrFull)
	}
}

func TestFullComesBehindCheck(t *testing.T) {
	b := data(1, 3, 5, true, 2)
	l := filled(t, api.Config{Cap: batch.Size(b)}, 0, b)
	repeats(t, l, b, 0)
	refuses(t, l, data(1, 2, 7, true, 1), api.ErrFenced)
	refuses(t, l, data(1, 3, 8, true, 1), api.ErrOrder)
	refuses(t, l, data(1, 3, 7, false, 1), api.ErrTxn)
	refuses(t, l, marker(1, 3, api.Commit), api.ErrTxn)
	refuses(t, l, data(1, 3, 7, true, 1), api.ErrFull)
	refuses(t, l, free(1), api.ErrFull)
}

func TestOverflow(t *testing.T) {
	for n := 1; n <= api.MaxRecords; n++ {
		start := int64(api.MaxOffset - n)
		refuses(t, filled(t, roomy, start+1), free(n), api.ErrOverflow)
		refuses(t, filled(t, roomy, start+1), data(1, 0, 0, true, n), api.ErrOverflow)
		l := filled(t, roomy, start)
		adds(t, l, free(n))
		// No room for anything more, but all is told as ever.
		refuses(t, l, free(1), api.ErrOverflow)
		refuses(t, l, data(1, 0, 0, true, 1), api.ErrOverflow)
		refuses(t, l, free(api.MaxRecords), api.ErrOverflow)
		if f, why := l.Fetch(start, 64, true); why != api.OK || len(f.Recs) != n || f.Next != api.MaxOffset {
			t.Errorf("P15.1: Fetch up to MaxOffset: %v, %d", f, int(why))
		}
		if got := l.Keep(most); got != api.MaxOffset {
			t.Errorf("P15.2: Keep of all up to MaxOffset: %d", got)
		}
		refuses(t, l, free(1), api.ErrOverflow)
	}
}

func TestOverflowComesLast(t *testing.T) {
	b := data(1, 3, 5, true, 2)
	l := filled(t, roomy, api.MaxOffset-2, b)
	repeats(t, l, b, api.MaxOffset-2)
	refuses(t, l, data(1, 2, 7, true, 1), api.ErrFenced)
	refuses(t, l, data(1, 3, 8, true, 1), api.ErrOrder)
	refuses(t, l, data(1, 3, 7, false, 1), api.ErrTxn)
	refuses(t, l, marker(1, 3, api.Commit), api.ErrTxn)
	refuses(t, l, data(1, 3, 7, true, 1), api.ErrOverflow)
	refusesMark(t, l, 1, 3, api.Commit, api.ErrOverflow)
	refusesMark(t, l, 1, 2, api.Commit, api.ErrFenced)
	refusesMark(t, l, 1, 3, 3, api.ErrCorrupt)
	l = filled(t, api.Config{Cap: batch.Size(b)}, api.MaxOffset-2, b)
	refuses(t, l, data(1, 3, 7, true, 1), api.ErrFull)
	refuses(t, l, free(1), api.ErrFull)
	refusesMark(t, l, 1, 3, api.Commit, api.ErrFull)
	// A marker takes one offset.
	l = filled(t, roomy, api.MaxOffset-3, b)
	marks(t, l, 1, 3, api.Commit)
	refuses(t, l, free(1), api.ErrOverflow)
}
