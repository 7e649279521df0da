package producer

import (
	"slices"
	"testing"

	"bordereau/api"
)

// equal reports in another way than Same whether all fields are equal.
func equal(a, b api.Producer) bool {
	if len(a.Last) != len(b.Last) {
		return false
	}
	for i := range a.Last {
		for k := range a.Last[i] {
			if a.Last[i][k] != b.Last[i][k] {
				return false
			}
		}
	}
	return a.ID == b.ID && a.Epoch == b.Epoch && a.Open == b.Open
}

// leads fails the test unless Apply answers want.
func leads(t *testing.T, p api.Producer, known bool, b api.Batch, want api.Producer) {
	t.Helper()
	if got := Apply(p, known, b); !equal(got, want) {
		t.Errorf("P10.2: Apply of %v, with %v, %v: %v, want %v", b, p, known, got, want)
	}
}

// told returns what Last tells of b, which is data.
func told(b api.Batch) [3]int64 {
	return [3]int64{b.Seq, along(b.Seq, int64(len(b.Recs))-1), b.Base}
}

// latest returns the last elements of l, as many as Latest.
func latest(l [][3]int64) [][3]int64 {
	for len(l) > 5 {
		l = l[1:]
	}
	return slices.Clone(l)
}

// batches are data of many numbers of records, sequence numbers and bases.
func batches(epoch int, txn bool) []api.Batch {
	var out []api.Batch
	for n := 1; n <= api.MaxRecords; n++ {
		for i, seq := range []int64{0, 1, 77, api.MaxSeq - 15, api.MaxSeq - 3, api.MaxSeq} {
			out = append(out, data([]int64{0, 50, 1 << 33, api.MaxOffset}[(n+i)%4], epoch, seq, txn, n))
		}
	}
	return out
}

func TestApplyOfTheFirstBatch(t *testing.T) {
	for _, p := range []api.Producer{{}, state(3, -1), state(3, 9, row(5, 0, 5)...), state(0, 0, row(1, 0, 0)...)} {
		for _, epoch := range []int{0, 3, api.MaxEpoch} {
			for _, b := range batches(epoch, false) {
				leads(t, p, false, b, state(epoch, -1, told(b)))
			}
			for _, b := range batches(epoch, true) {
				leads(t, p, false, b, state(epoch, b.Base, told(b)))
			}
			leads(t, p, false, marker(50, epoch, api.Commit), state(epoch, -1))
			leads(t, p, false, marker(50, epoch, api.Abort), state(epoch, -1))
		}
	}
}

func TestApplyOfTheSameEpoch(t *testing.T) {
	for _, l := range rows() {
		for _, epoch := range []int{0, 3, api.MaxEpoch} {
			for _, open := range []int64{-1, 0, 30, api.MaxOffset} {
				for _, b := range batches(epoch, false) {
					leads(t, state(epoch, open, l...), true, b, state(epoch, open, latest(append(slices.Clone(l), told(b)))...))
				}
				for _, b := range batches(epoch, true) {
					// The first offset of a transaction stays what it is while the transaction goes on.
					first := open
					if open == -1 {
						first = b.Base
					}
					leads(t, state(epoch, open, l...), true, b, state(epoch, first, latest(append(slices.Clone(l), told(b)))...))
				}
			}
		}
	}
}

func TestApplyOfAnotherEpoch(t *testing.T) {
	for _, l := range rows() {
		for _, epoch := range []int{0, 2, 4, api.MaxEpoch} {
			for _, b := range batches(epoch, false) {
				leads(t, state(3, -1, l...), true, b, state(epoch, -1, told(b)))
				leads(t, state(3, 30, l...), true, b, state(epoch, 30, told(b)))
			}
			for _, b := range batches(epoch, true) {
				leads(t, state(3, -1, l...), true, b, state(epoch, b.Base, told(b)))
				leads(t, state(3, 0, l...), true, b, state(epoch, 0, told(b)))
			}
		}
	}
}

func TestApplyOfMarkers(t *testing.T) {
	for _, l := range rows() {
		for _, kind := range []int{api.Commit, api.Abort} {
			for _, open := range []int64{-1, 0, 30, api.MaxOffset} {
				leads(t, state(3, open, l...), true, marker(50, 3, kind), state(3, -1, l...))
				leads(t, state(0, open, l...), true, marker(50, 0, kind), state(0, -1, l...))
				for _, epoch := range []int{0, 2, 4, api.MaxEpoch} {
					leads(t, state(3, open, l...), true, marker(50, epoch, kind), state(epoch, -1))
				}
			}
		}
	}
}

// The producer is that of the batch, whatever stood in the state.
func TestApplyTakesTheID(t *testing.T) {
	for _, id := range []int64{0, 1, 9, 1 << 62} {
		for _, known := range []bool{false, true} {
			b := data(50, 3, 7, false, 2)
			b.Producer = id
			want := state(3, -1, [3]int64{7, 8, 50})
			want.ID = id
			leads(t, state(3, -1), known, b, want)
			b = marker(50, 3, api.Commit)
			b.Producer = id
			want.Last = nil
			leads(t, state(3, -1), known, b, want)
		}
	}
}

// step is a batch, and what is known of its producer behind it.
type step struct {
	b    api.Batch
	want api.Producer
}

// runs fails the test unless each batch can be appended, one behind the other, and leads to what it should.
func runs(t *testing.T, steps ...step) {
	t.Helper()
	p, known := api.Producer{}, false
	for _, s := range steps {
		answers(t, p, known, s.b, -1, api.OK)
		leads(t, p, known, s.b, s.want)
		p, known = Apply(p, known, s.b), true
		rightIs(t, p, true)
	}
}

func TestApplyOneBehindTheOther(t *testing.T) {
	a, b, c, d, e, f, g := [3]int64{0, 0, 0}, [3]int64{1, 16, 1}, [3]int64{17, 18, 17}, [3]int64{19, 19, 30}, [3]int64{20, 22, 31}, [3]int64{23, 23, 34}, [3]int64{24, 25, 35}
	runs(t,
		step{data(0, 3, 0, false, 1), state(3, -1, a)},
		step{data(1, 3, 1, false, 16), state(3, -1, a, b)},
		step{data(17, 3, 17, false, 2), state(3, -1, a, b, c)},
		step{data(30, 3, 19, false, 1), state(3, -1, a, b, c, d)},
		step{data(31, 3, 20, false, 3), state(3, -1, a, b, c, d, e)},
		step{data(34, 3, 23, false, 1), state(3, -1, b, c, d, e, f)},
		step{data(35, 3, 24, false, 2), state(3, -1, c, d, e, f, g)},
	)
}

func TestApplyOfTransactions(t *testing.T) {
	const most = api.MaxSeq
	a, b, c, d, e := [3]int64{most - 2, most - 1, 0}, [3]int64{most, most, 2}, [3]int64{0, 3, 3}, [3]int64{4, 4, 9}, [3]int64{5, 5, 11}
	for _, kind := range []int{api.Commit, api.Abort} {
		runs(t,
			step{data(0, 3, most-2, true, 2), state(3, 0, a)},
			step{data(2, 3, most, true, 1), state(3, 0, a, b)},
			step{data(3, 3, 0, true, 4), state(3, 0, a, b, c)},
			step{marker(8, 3, kind), state(3, -1, a, b, c)},
			step{data(9, 3, 4, true, 1), state(3, 9, a, b, c, d)},
			step{marker(10, 3, kind), state(3, -1, a, b, c, d)},
			step{data(11, 3, 5, false, 1), state(3, -1, a, b, c, d, e)},
		)
	}
}

func TestApplyOfLaterEpochs(t *testing.T) {
	a, b, c := [3]int64{77, 78, 20}, [3]int64{0, 0, 22}, [3]int64{5, 5, 40}
	runs(t,
		step{data(20, 0, 77, false, 2), state(0, -1, a)},
		step{data(22, 1, 0, true, 1), state(1, 22, b)},
		// A marker of a later epoch closes what was begun in an earlier one, and no number of it is known behind that.
		step{marker(23, 7, api.Abort), state(7, -1)},
		step{data(40, 7, 5, false, 1), state(7, -1, c)},
		step{data(41, api.MaxEpoch, 0, false, 16), state(api.MaxEpoch, -1, [3]int64{0, 15, 41})},
		step{data(57, api.MaxEpoch, 16, true, 1), state(api.MaxEpoch, 57, [3]int64{0, 15, 41}, [3]int64{16, 16, 57})},
	)
}
