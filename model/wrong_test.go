package model

import (
	"math"
	"testing"

	"bordereau/api"
	"bordereau/batch"
	"bordereau/table"
)

// extremes are the ends of int64, the limits, and numbers next to them.
func extremes() []int64 {
	return []int64{least, least + 1, -1 << 40, -1 << 31, -2, -1, 0, 1, 2, 5, api.MaxFetch, api.MaxEpoch, api.MaxEpoch + 1, api.MaxSeq, api.MaxSeq + 1, 1 << 32, api.MaxOffset - 1, api.MaxOffset, api.MaxOffset + 1, most - 1, most}
}

// partitions are some of each kind: empty, with batches, full, at the end of the offsets.
func partitions(t *testing.T) []*Log {
	t.Helper()
	full := filled(t, api.Config{Cap: batch.Size(data(1, 3, 0, true, 2))}, 0, data(1, 3, 0, true, 2))
	kept := filled(t, roomy, 0, mixed()...)
	kept.Keep(6)
	return []*Log{New(roomy), New(api.Config{}), New(api.Config{Cap: math.MinInt}), New(api.Config{Cap: math.MaxInt}), filled(t, roomy, 0, mixed()...), kept, full, filled(t, roomy, api.MaxOffset-2, data(1, 3, 0, true, 1)), filled(t, roomy, api.MaxOffset-1, data(1, 3, 0, true, 1))}
}

// wild are batches of numbers of any size.
func wild() []api.Batch {
	var out []api.Batch
	for _, n := range extremes() {
		for _, kind := range []int{0, api.Commit, api.Abort, 3, -1, math.MinInt, math.MaxInt} {
			for _, count := range []int{0, 1, api.MaxRecords, 300} {
				b := at(n, data(n, int(n), n, true, count))
				b.Marker = kind
				plain, one, numbered := b, b, b
				plain.Txn, one.Producer, numbered.Epoch = false, 1, 3
				out = append(out, b, plain, one, numbered, at(n, free(count)))
			}
		}
	}
	return out
}

// right fails the test unless l tells what its batches say, which follow one another within the limits.
func right(t *testing.T, what string, l *Log) {
	t.Helper()
	holds(t, what, l, l.Start(), l.Batches(), table.Fold(l.Batches()).All())
	end := l.Start()
	for _, b := range l.Batches() {
		if b.Base != end || batch.Right(b) != api.OK {
			t.Errorf("P15.1: %s: %v at %d", what, b, end)
		}
		end += int64(batch.Count(b))
	}
	if l.Start() < 0 || end != l.End() || end > api.MaxOffset {
		t.Errorf("P15.1: %s: from %d to %d", what, l.Start(), end)
	}
}

// refused fails the test unless the number that stands beside an error is -1, and that beside none is not.
func refused(t *testing.T, what string, base int64, why api.Errno) {
	t.Helper()
	if (why != api.OK) != (base == -1) || base < -1 || base > api.MaxOffset {
		t.Errorf("R3: %s: %d, %d", what, base, int(why))
	}
}

func TestAnyBatches(t *testing.T) {
	for _, l := range partitions(t) {
		for _, b := range wild() {
			base, why := l.Produce(b)
			refused(t, "Produce", base, why)
			base, why = l.Raw(encoded(b))
			refused(t, "Raw", base, why)
		}
		right(t, "behind any batches", l)
	}
}

func TestAnyNumbers(t *testing.T) {
	for i := range partitions(t) {
		for _, n := range extremes() {
			l := partitions(t)[i]
			for _, m := range extremes() {
				for _, k := range []int64{least, -1, 0, api.Commit, api.Abort, 3, most} {
					base, why := l.Mark(n, int(m), int(k))
					refused(t, "Mark", base, why)
				}
				for _, only := range []bool{false, true} {
					if f, why := l.Fetch(n, m, only); why != api.OK && !same(f, api.Fetch{}) {
						t.Errorf("R3: Fetch(%d, %d, %v): %v, %d", n, m, only, f, int(why))
					}
				}
			}
			right(t, "behind Mark", l)
			was := l.Start()
			if got := l.Keep(n); got != l.Start() || got < was || got > max(was, n) {
				t.Errorf("P15.2: Keep(%d) from %d: %d", n, was, got)
			}
			right(t, "behind Keep", l)
			l.Cut(int(n))
			right(t, "behind Cut", l)
			right(t, "a copy", l.Copy())
		}
	}
}

func TestAnyBytes(t *testing.T) {
	for _, l := range partitions(t) {
		for n := range 300 {
			for _, x := range []byte{0, 1, 127, 128, 255} {
				p := make([]byte, n)
				fill(p, x)
				base, why := l.Raw(p)
				refused(t, "Raw", base, why)
				if why == api.OK {
					t.Errorf("P15.1: Raw of %d times %d", n, x)
				}
			}
		}
		right(t, "behind any bytes", l)
	}
}
