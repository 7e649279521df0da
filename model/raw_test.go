package model

import (
	"encoding/binary"
	"math"
	"testing"

	"bordereau/api"
	"bordereau/batch"
)

// encoded returns the bytes of b, which is valid.
func encoded(b api.Batch) []byte {
	p, _ := batch.Bytes(b)
	return p
}

// takes fails the test unless Raw of p appends b at End.
func takes(t *testing.T, l *Log, p []byte, b api.Batch) {
	t.Helper()
	answers(t, "Raw", l, func() (int64, api.Errno) { return l.Raw(p) }, l.End(), api.OK, b)
}

// refusesRaw fails the test unless Raw refuses p.
func refusesRaw(t *testing.T, l *Log, p []byte, why api.Errno) {
	t.Helper()
	answers(t, "Raw", l, func() (int64, api.Errno) { return l.Raw(p) }, -1, why)
}

func TestRaw(t *testing.T) {
	l, want := New(roomy), New(roomy)
	for i, b := range mixed() {
		// The base is ignored.
		p := encoded(at([]int64{0, 77, api.MaxOffset}[i%3], b))
		if b.Marker != 0 {
			refusesRaw(t, l, p, api.ErrTxn)
			marks(t, l, b.Producer, b.Epoch, b.Marker)
			marks(t, want, b.Producer, b.Epoch, b.Marker)
			continue
		}
		takes(t, l, p, b)
		adds(t, want, b)
		holds(t, "P15.1: Raw", l, 0, want.Batches(), want.Producers())
	}
	holds(t, "P15.1: Raw", l, 0, row(0, mixed()...), mixedStates())
}

// Raw answers as Produce does.
func TestRawIsRefusedAsProduceIs(t *testing.T) {
	b := data(1, 3, 5, true, 2)
	l := filled(t, api.Config{Cap: 2 * batch.Size(b)}, 0, free(1), b)
	for _, c := range []struct {
		b    api.Batch
		base int64
		why  api.Errno
	}{{b, 1, api.OK}, {at(99, b), 1, api.OK}, {data(1, 2, 0, true, 1), -1, api.ErrFenced}, {data(1, 3, 5, true, 1), -1, api.ErrOrder}, {data(1, 3, 7, false, 1), -1, api.ErrTxn}, {marker(1, 3, api.Abort), -1, api.ErrTxn}, {marker(2, 3, api.Commit), -1, api.ErrTxn}, {data(1, 3, 7, true, 1), -1, api.ErrFull}} {
		answers(t, "Raw", l, func() (int64, api.Errno) { return l.Raw(encoded(c.b)) }, c.base, c.why)
	}
	l = filled(t, roomy, api.MaxOffset-1)
	refusesRaw(t, l, encoded(free(2)), api.ErrOverflow)
	takes(t, l, encoded(at(api.MaxOffset, free(1))), free(1))
	refusesRaw(t, l, encoded(free(1)), api.ErrOverflow)
}

func TestRawOfOtherBytes(t *testing.T) {
	l := filled(t, roomy, 0, data(1, 3, 5, true, 2))
	refusesRaw(t, l, nil, api.ErrCorrupt)
	refusesRaw(t, l, []byte{}, api.ErrCorrupt)
	for n := range 40 {
		refusesRaw(t, l, make([]byte, n), api.ErrCorrupt)
	}
	for _, b := range []api.Batch{free(1), data(1, 3, 7, true, 3), data(1, 3, 5, true, 2), marker(1, 3, api.Commit), free(16)} {
		p := encoded(b)
		for n := range p {
			refusesRaw(t, l, p[:n], api.ErrCorrupt)
		}
		for _, more := range [][]byte{{0}, {255}, p[:12], p} {
			// Ahead of all that Produce asks: a marker, a batch that is there.
			refusesRaw(t, l, append(encoded(b), more...), api.ErrCorrupt)
		}
	}
	long := append(make([]byte, 8), 0, 0, 16, 0)
	refusesRaw(t, l, long, api.ErrLarge)
	refusesRaw(t, l, append(long, make([]byte, api.MaxBatch)...), api.ErrLarge)
	refusesRaw(t, l, append(make([]byte, 8), 255, 255, 255, 255), api.ErrLarge)
}

// Whatever bit is another one, Raw sees it, but for those of the base.
func TestRawOfTurnedBytes(t *testing.T) {
	for _, base := range []int64{0, 5, api.MaxOffset} {
		turned(t, at(base, data(1, 3, 7, true, 2)))
	}
}

// turned turns each bit of the bytes of b, which may follow a batch of producer 1.
func turned(t *testing.T, b api.Batch) {
	t.Helper()
	good := encoded(b)
	for i := range good {
		for bit := range 8 {
			p := append([]byte(nil), good...)
			p[i] ^= 1 << bit
			l := filled(t, roomy, 0, data(1, 3, 5, true, 2))
			base := int64(binary.BigEndian.Uint64(p))
			switch {
			case i < 8 && 0 <= base && base <= api.MaxOffset:
				takes(t, l, p, b)
			case i < 8, i >= 12:
				refusesRaw(t, l, p, api.ErrCorrupt)
			default:
				_, _, why := batch.Read(p)
				refusesRaw(t, l, p, why)
			}
		}
	}
}

func TestRawOfBatchesThatAreNotValid(t *testing.T) {
	for _, l := range wrongBatches() {
		for _, b := range l {
			refusesRaw(t, New(roomy), encoded(b), api.ErrCorrupt)
		}
	}
}

func TestMark(t *testing.T) {
	for _, kind := range []int{api.Commit, api.Abort} {
		l := filled(t, roomy, 5, free(1), data(1, 3, 7, true, 2), data(2, 0, 0, true, 1))
		marks(t, l, 1, 3, kind)
		holds(t, "P15.1: Mark", l, 5, row(5, free(1), data(1, 3, 7, true, 2), data(2, 0, 0, true, 1), marker(1, 3, kind)), []api.Producer{state(1, 3, -1, [3]int64{7, 8, 6}), state(2, 0, 8, [3]int64{0, 0, 8})})
		// It is not known again: nothing is open any more.
		refusesMark(t, l, 1, 3, kind, api.ErrTxn)
		adds(t, l, data(1, 3, 9, true, 1))
		marks(t, l, 1, 3, kind)
		// A later epoch may mark; none of its sequence numbers is known then.
		marks(t, l, 2, 9, kind)
		holds(t, "P15.1: Mark", l, 5, l.Batches(), []api.Producer{state(1, 3, -1, [3]int64{7, 8, 6}, [3]int64{9, 9, 10}), state(2, 9, -1)})
		refuses(t, l, data(2, 0, 1, false, 1), api.ErrFenced)
		adds(t, l, data(2, 9, 55, false, 1))
	}
}

func TestMarkRefusals(t *testing.T) {
	made := func() *Log {
		return filled(t, roomy, 0, data(1, 3, 7, true, 2), data(2, 0, 0, false, 1), data(0, 0, 0, true, 1))
	}
	for _, kind := range []int{api.Commit, api.Abort} {
		refusesMark(t, New(roomy), 1, 0, kind, api.ErrTxn)
		refusesMark(t, made(), 2, 0, kind, api.ErrTxn)
		refusesMark(t, made(), 3, 0, kind, api.ErrTxn)
		refusesMark(t, made(), most, 0, kind, api.ErrTxn)
		for _, epoch := range []int{0, 1, 2} {
			refusesMark(t, made(), 1, epoch, kind, api.ErrFenced)
		}
		for _, epoch := range []int{-1, math.MinInt, api.MaxEpoch + 1, 1 << 16, math.MaxInt} {
			refusesMark(t, made(), 1, epoch, kind, api.ErrCorrupt)
			refusesMark(t, made(), 0, epoch, kind, api.ErrCorrupt)
		}
		for _, id := range []int64{-1, -2, least} {
			refusesMark(t, made(), id, 0, kind, api.ErrCorrupt)
			refusesMark(t, made(), id, -1, kind, api.ErrCorrupt)
		}
		marks(t, made(), 0, 0, kind)
		marks(t, made(), 1, api.MaxEpoch, kind)
	}
	for _, kind := range []int{0, 3, 4, -1, -2, math.MinInt, math.MaxInt} {
		for _, id := range []int64{0, 1, 2, 3, -1, least, most} {
			for _, epoch := range []int{-1, 0, 2, 3, 4, api.MaxEpoch, api.MaxEpoch + 1} {
				refusesMark(t, made(), id, epoch, kind, api.ErrCorrupt)
			}
		}
		refusesMark(t, New(roomy), 1, 0, kind, api.ErrCorrupt)
		refusesMark(t, New(api.Config{}), 1, 0, kind, api.ErrCorrupt)
		refusesMark(t, filled(t, roomy, api.MaxOffset), 1, 0, kind, api.ErrCorrupt)
	}
}

func TestMarkOfAFullPartition(t *testing.T) {
	b := data(1, 3, 5, true, 2)
	n, m := batch.Size(b), batch.Size(marker(1, 3, api.Abort))
	for _, kind := range []int{api.Commit, api.Abort} {
		l := filled(t, api.Config{Cap: n + m - 1}, 0, b)
		refusesMark(t, l, 1, 3, kind, api.ErrFull)
		refusesMark(t, l, 1, 2, kind, api.ErrFenced)
		refusesMark(t, l, 2, 3, kind, api.ErrTxn)
		refusesMark(t, l, 1, -1, kind, api.ErrCorrupt)
		repeats(t, l, b, 0)
		l = filled(t, api.Config{Cap: n + m}, 0, b)
		marks(t, l, 1, 3, kind)
		refusesMark(t, l, 1, 3, kind, api.ErrTxn)
		refuses(t, l, free(1), api.ErrFull)
		// One offset is left, and none.
		l = filled(t, roomy, api.MaxOffset-3, b)
		marks(t, l, 1, 3, kind)
		l = filled(t, roomy, api.MaxOffset-2, b)
		refusesMark(t, l, 1, 3, kind, api.ErrOverflow)
		refusesMark(t, l, 2, 3, kind, api.ErrTxn)
	}
}
