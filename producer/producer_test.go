package producer

import (
	"testing"

	"bordereau/api"
)

// all is how many sequence numbers there are.
const all = int64(api.MaxSeq) + 1

// data returns data of producer 4 with that many records.
func data(base int64, epoch int, seq int64, txn bool, records int) api.Batch {
	return api.Batch{Base: base, Producer: 4, Epoch: epoch, Seq: seq, Txn: txn, Recs: make([]api.Rec, records)}
}

// marker returns a marker of producer 4 of that kind.
func marker(base int64, epoch, kind int) api.Batch {
	return api.Batch{Base: base, Producer: 4, Epoch: epoch, Seq: -1, Txn: true, Marker: kind}
}

// state returns a state of producer 4.
func state(epoch int, open int64, l ...[3]int64) api.Producer {
	return api.Producer{ID: 4, Epoch: epoch, Last: l, Open: open}
}

// along returns the sequence number that many steps after n, in another way than package seq.
func along(n, steps int64) int64 {
	return ((n+steps)%all + all) % all
}

// row returns n elements of Last, the first of which has the first sequence number first and that base. They have as many records as they stand behind it, and one more.
func row(n int, first, base int64) [][3]int64 {
	var out [][3]int64
	for i := range int64(n) {
		out = append(out, [3]int64{first, along(first, i), base})
		first, base = along(first, i+1), base+i+1
	}
	return out
}

// rows returns lists of none to Latest elements, and of one more than that, of low, high and round sequence numbers.
func rows() [][][3]int64 {
	var out [][][3]int64
	for n := range api.Latest + 2 {
		out = append(out, row(n, 0, 0), row(n, 77, 20), row(n, api.MaxSeq-7, 1<<32), row(n, api.MaxSeq, api.MaxOffset-30))
	}
	return out
}

// records returns how many records the batch of e had.
func records(e [3]int64) int {
	return int(along(e[1], -e[0])) + 1
}

// next returns the sequence number that follows those of l, which is not empty.
func next(l [][3]int64) int64 {
	return along(l[len(l)-1][1], 1)
}

// answers fails the test unless Check of b answers want and why.
func answers(t *testing.T, p api.Producer, known bool, b api.Batch, want int64, why api.Errno) {
	t.Helper()
	if got, is := Check(p, known, b); got != want || is != why {
		t.Errorf("P10.1: Check of %v, with %v, %v: %d, %d, want %d, %d", b, p, known, got, int(is), want, int(why))
	}
}

// dupIs fails the test unless Dup of b answers want, and true unless that is -1.
func dupIs(t *testing.T, p api.Producer, b api.Batch, want int64) {
	t.Helper()
	if got, ok := Dup(p, b); got != want || ok != (want != -1) {
		t.Errorf("P10.1: Dup of %v, with %v: %d, %v, want %d", b, p, got, ok, want)
	}
}

func TestExamples(t *testing.T) {
	b := data(20, 3, 5, false, 2)
	answers(t, api.Producer{}, false, b, -1, api.OK)
	p := Apply(api.Producer{}, false, b)
	answers(t, p, true, b, 20, api.OK)
	answers(t, p, true, data(22, 2, 7, false, 1), -1, api.ErrFenced)
	answers(t, p, true, marker(22, 3, api.Commit), -1, api.ErrTxn)
}

func TestCheckOfAProducerThatIsNotKnown(t *testing.T) {
	// What stands in a state that is not known makes no difference.
	for _, p := range []api.Producer{{}, state(3, -1), state(3, 0), state(3, 9, row(5, 0, 5)...), state(api.MaxEpoch, 30, row(2, 77, 20)...)} {
		for _, epoch := range []int{0, 1, 3, api.MaxEpoch} {
			for _, seq := range []int64{0, 1, 77, api.MaxSeq - 1, api.MaxSeq} {
				for _, n := range []int{1, 2, api.MaxRecords} {
					answers(t, p, false, data(50, epoch, seq, false, n), -1, api.OK)
					answers(t, p, false, data(50, epoch, seq, true, n), -1, api.OK)
				}
			}
			answers(t, p, false, marker(50, epoch, api.Commit), -1, api.ErrTxn)
			answers(t, p, false, marker(50, epoch, api.Abort), -1, api.ErrTxn)
		}
	}
}

func TestCheckOfALowerEpoch(t *testing.T) {
	for _, l := range rows() {
		for _, epoch := range []int{1, 3, api.MaxEpoch} {
			for _, open := range []int64{-1, 0, 30, api.MaxOffset} {
				p := state(epoch, open, l...)
				for _, lower := range []int{0, epoch - 1} {
					// Ahead of all other errors, and of what it would repeat.
					for _, txn := range []bool{false, true} {
						answers(t, p, true, data(50, lower, 0, txn, 1), -1, api.ErrFenced)
						answers(t, p, true, data(50, lower, 12345, txn, 1), -1, api.ErrFenced)
						for _, e := range l {
							answers(t, p, true, data(50, lower, e[0], txn, records(e)), -1, api.ErrFenced)
							answers(t, p, true, data(50, lower, next(l), txn, 1), -1, api.ErrFenced)
						}
					}
					answers(t, p, true, marker(50, lower, api.Commit), -1, api.ErrFenced)
					answers(t, p, true, marker(50, lower, api.Abort), -1, api.ErrFenced)
				}
			}
		}
	}
}

func TestCheckOfALaterEpoch(t *testing.T) {
	for _, l := range rows() {
		for _, epoch := range []int{0, 3, api.MaxEpoch - 1} {
			seqs := []int64{1, 2, 77, api.MaxSeq - 1, api.MaxSeq}
			if len(l) > 0 && next(l) != 0 {
				seqs = append(seqs, next(l))
			}
			for _, later := range []int{epoch + 1, api.MaxEpoch} {
				for _, txn := range []bool{false, true} {
					answers(t, state(epoch, -1, l...), true, data(50, later, 0, txn, 3), -1, api.OK)
					answers(t, state(epoch, -1, l...), true, data(50, later, 0, txn, 1), -1, api.OK)
					for _, seq := range seqs {
						answers(t, state(epoch, -1, l...), true, data(50, later, seq, txn, 1), -1, api.ErrOrder)
					}
					for _, open := range []int64{0, 30, api.MaxOffset} {
						for _, seq := range append(seqs, 0) {
							answers(t, state(epoch, open, l...), true, data(50, later, seq, txn, 1), -1, api.ErrTxn)
						}
					}
				}
			}
		}
	}
}

func TestCheckOfTheNextNumber(t *testing.T) {
	for _, l := range rows()[4:] {
		for _, epoch := range []int{0, 3, api.MaxEpoch} {
			shut, open := state(epoch, -1, l...), state(epoch, 0, l...)
			// As many records as no element has, so that none of these is one of them again.
			for _, n := range []int{9, api.MaxRecords} {
				answers(t, shut, true, data(50, epoch, next(l), false, n), -1, api.OK)
				answers(t, shut, true, data(50, epoch, next(l), true, n), -1, api.OK)
				answers(t, open, true, data(50, epoch, next(l), true, n), -1, api.OK)
				answers(t, open, true, data(50, epoch, next(l), false, n), -1, api.ErrTxn)
				for _, off := range []int64{-1, 1, -2, 2, 1000, -1000, all / 2} {
					for _, txn := range []bool{false, true} {
						answers(t, shut, true, data(50, epoch, along(next(l), off), txn, n), -1, api.ErrOrder)
						answers(t, open, true, data(50, epoch, along(next(l), off), txn, n), -1, api.ErrOrder)
					}
				}
			}
		}
	}
}

func TestCheckRoundBehindTheGreatestNumber(t *testing.T) {
	for _, c := range []struct {
		last, seq int64
		why       api.Errno
	}{
		{api.MaxSeq, 0, api.OK},
		{api.MaxSeq, 1, api.ErrOrder},
		{api.MaxSeq, api.MaxSeq, api.ErrOrder},
		{api.MaxSeq - 1, api.MaxSeq, api.OK},
		{api.MaxSeq - 1, 0, api.ErrOrder},
		{0, 1, api.OK},
		{0, 0, api.ErrOrder},
		{0, api.MaxSeq, api.ErrOrder},
		{3, 4, api.OK},
		{3, 0, api.ErrOrder},
	} {
		answers(t, state(3, -1, [3]int64{along(c.last, -7), c.last, 20}), true, data(50, 3, c.seq, false, 2), -1, c.why)
	}
	// One batch that lies on both sides.
	answers(t, state(3, -1, [3]int64{api.MaxSeq - 1, 1, 20}), true, data(50, 3, 2, false, 1), -1, api.OK)
	answers(t, state(3, -1, [3]int64{api.MaxSeq - 1, 1, 20}), true, data(50, 3, api.MaxSeq-1, false, 4), 20, api.OK)
}

// A marker of a later epoch leaves no numbers, so any number may follow.
func TestCheckBehindNoNumbers(t *testing.T) {
	for _, seq := range []int64{0, 1, 77, api.MaxSeq} {
		for _, epoch := range []int{0, 3, api.MaxEpoch} {
			answers(t, state(epoch, -1), true, data(50, epoch, seq, false, 1), -1, api.OK)
			answers(t, state(epoch, -1), true, data(50, epoch, seq, true, 1), -1, api.OK)
			answers(t, state(epoch, 9), true, data(50, epoch, seq, true, 1), -1, api.OK)
			answers(t, state(epoch, 9), true, data(50, epoch, seq, false, 1), -1, api.ErrTxn)
			dupIs(t, state(epoch, -1), data(50, epoch, seq, false, 1), -1)
		}
	}
}

// It is the last number of the last element that has to be followed.
func TestCheckFollowsTheLastElement(t *testing.T) {
	p := state(3, -1, [3]int64{9, 9, 1}, [3]int64{3, 5, 2}, [3]int64{20, 30, 3})
	for seq := range int64(40) {
		why := api.ErrOrder
		if seq == 31 {
			why = api.OK
		}
		answers(t, p, true, data(50, 3, seq, false, 2), -1, why)
	}
}

func TestCheckOfTheSameBatchAgain(t *testing.T) {
	for _, l := range rows() {
		for _, epoch := range []int{0, 3, api.MaxEpoch} {
			for _, open := range []int64{-1, 0, 30, api.MaxOffset} {
				p := state(epoch, open, l...)
				for _, e := range l {
					// Whether it is of a transaction, and its base, make no difference.
					for _, txn := range []bool{false, true} {
						b := data(e[2]+1, epoch, e[0], txn, records(e))
						answers(t, p, true, b, e[2], api.OK)
						dupIs(t, p, b, e[2])
					}
				}
			}
		}
	}
}

func TestCheckOfAnotherCountOfRecords(t *testing.T) {
	for _, l := range rows() {
		for _, open := range []int64{-1, 30} {
			p := state(3, open, l...)
			for _, e := range l {
				for n := 1; n <= api.MaxRecords; n++ {
					b := data(50, 3, e[0], true, n)
					if n == records(e) {
						continue
					}
					answers(t, p, true, b, -1, api.ErrOrder)
					dupIs(t, p, b, -1)
				}
				// Another first number, with the same last one.
				if n := records(e); n > 1 {
					dupIs(t, p, data(50, 3, along(e[0], 1), true, n-1), -1)
				}
				dupIs(t, p, data(50, 3, along(e[0], -1), true, records(e)+1), -1)
			}
		}
	}
}

// Where a transaction is open and the batch is of none, that counts behind all others.
func TestCheckOrderOfErrors(t *testing.T) {
	p := state(3, 30, row(3, 5, 20)...)
	answers(t, p, true, data(50, 2, 99, false, 1), -1, api.ErrFenced)
	answers(t, p, true, data(50, 4, 99, false, 1), -1, api.ErrTxn)
	answers(t, p, true, data(50, 3, 5, false, 1), 20, api.OK)
	answers(t, p, true, data(50, 3, 99, false, 1), -1, api.ErrOrder)
	answers(t, p, true, data(50, 3, 11, false, 1), -1, api.ErrTxn)
	answers(t, p, true, data(50, 3, 11, true, 1), -1, api.OK)
}

func TestCheckOfMarkers(t *testing.T) {
	for _, l := range rows() {
		for _, kind := range []int{api.Commit, api.Abort} {
			for _, open := range []int64{-1, 0, 30, api.MaxOffset} {
				why := api.OK
				if open == -1 {
					why = api.ErrTxn
				}
				answers(t, state(3, open, l...), true, marker(50, 2, kind), -1, api.ErrFenced)
				answers(t, state(3, open, l...), true, marker(50, 3, kind), -1, why)
				answers(t, state(3, open, l...), true, marker(50, 4, kind), -1, why)
				answers(t, state(3, open, l...), true, marker(50, api.MaxEpoch, kind), -1, why)
				answers(t, state(0, open, l...), true, marker(50, 0, kind), -1, why)
				answers(t, state(api.MaxEpoch, open, l...), true, marker(50, api.MaxEpoch, kind), -1, why)
				answers(t, state(api.MaxEpoch, open, l...), true, marker(50, 0, kind), -1, api.ErrFenced)
			}
		}
	}
}

func TestDupOfAnotherEpoch(t *testing.T) {
	for _, l := range rows() {
		for _, e := range l {
			for _, epoch := range []int{-1, 0, 2, 4, api.MaxEpoch} {
				dupIs(t, state(3, -1, l...), data(50, epoch, e[0], false, records(e)), -1)
			}
			dupIs(t, state(3, -1, l...), data(50, 3, e[0], false, records(e)), e[2])
		}
	}
}

func TestDupOfMarkers(t *testing.T) {
	// A marker's number is -1, and so is the last of its numbers: that is no repetition, whatever stands in the state.
	for _, p := range []api.Producer{{}, state(3, -1), state(3, 9, row(5, 0, 5)...), state(3, 9, [3]int64{-1, -1, 7}), state(3, 9, [3]int64{0, 0, 7})} {
		for _, kind := range []int{api.Commit, api.Abort} {
			dupIs(t, p, marker(50, 3, kind), -1)
			dupIs(t, p, api.Batch{Producer: 4, Epoch: 3, Txn: true, Marker: kind}, -1)
		}
	}
}

// If several elements have the numbers, it is the first one.
func TestDupOfSeveral(t *testing.T) {
	p := state(3, -1, [3]int64{4, 4, 9}, [3]int64{5, 6, 20}, [3]int64{5, 6, 10}, [3]int64{5, 6, 30})
	dupIs(t, p, data(50, 3, 5, false, 2), 20)
	answers(t, p, true, data(50, 3, 5, false, 2), 20, api.OK)
}

// Whether a batch repeats one is asked first, even where it also is the next one, which it is in no state that is valid.
func TestCheckAsksForRepetitionFirst(t *testing.T) {
	for _, open := range []int64{-1, 9} {
		p := state(3, open, [3]int64{5, 6, 20}, [3]int64{4, 4, 30})
		for _, txn := range []bool{false, true} {
			answers(t, p, true, data(50, 3, 5, txn, 2), 20, api.OK)
		}
	}
}

func TestDupIsOfTheLatestAlone(t *testing.T) {
	p, known := api.Producer{}, false
	var had []api.Batch
	for i := range int64(12) {
		b := data(10*i, 3, 7*i, i%2 == 0, 7)
		p, known = Apply(p, known, b), true
		had = append(had, b)
		for j, b := range had {
			if len(had)-j <= 5 {
				dupIs(t, p, b, b.Base)
			} else {
				dupIs(t, p, b, -1)
			}
		}
	}
}
