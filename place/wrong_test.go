package place_test

import (
	"bytes"
	"math"
	"math/rand/v2"
	"testing"

	"bordereau/api"
	"bordereau/batch"
	"bordereau/crc"
	"bordereau/files"
	"bordereau/place"
)

// extremes are the ends of int64, the limits, and numbers next to them.
func extremes() []int64 {
	return []int64{math.MinInt64, math.MinInt64 + 1, -1 << 40, -1 << 31, -2, -1, 0, 1, 2, 5, api.MaxSeq, 1 << 32, api.MaxOffset - 1, api.MaxOffset, api.MaxOffset + 1, math.MaxInt64 - 1, math.MaxInt64}
}

// names are those that a partition has, and some beside them.
func names() []string {
	return []string{"start", "start.new", "clean", logFile(0), logFile(1), logFile(5), logFile(api.MaxOffset), "7.log", "00000000000000000005.index"}
}

// right fails the test unless what is told is as it must be, whatever the files hold.
func right(t *testing.T, what string, f *files.FS) {
	t.Helper()
	ask(t, f)
	start, l := place.Load(f)
	n, ok := place.Start(f)
	if start != n || start < 0 || start > api.MaxOffset || !ok && start != 0 {
		t.Errorf("P16.2: %s: Load tells the start %d, Start %d, %v", what, start, n, ok)
	}
	for i, b := range l {
		if b.Base < start || batch.Right(b) != api.OK || i > 0 && b.Base != end(l[i-1]) {
			t.Errorf("P16.2: %s: Load tells %v", what, l)
		}
	}
	last := int64(-1)
	for _, base := range place.Segments(f) {
		if base <= last || base > api.MaxOffset {
			t.Errorf("P16.1: %s: Segments tells %d", what, place.Segments(f))
		}
		last = base
	}
}

func TestFilesOfAnyBytes(t *testing.T) {
	r := rand.New(rand.NewPCG(16, 1))
	for range 3000 {
		f := files.New()
		for _, s := range names() {
			if r.IntN(3) == 0 {
				continue
			}
			f.Append(s, anyBytes(r))
			if r.IntN(2) == 0 {
				f.Sync(s)
			}
		}
		right(t, "files of any bytes", f)
		n := extremes()[r.IntN(len(extremes()))]
		f.Stop(r.IntN(9) - 1)
		place.SetStart(f, n)
		place.SetClean(f, r.IntN(2) == 0)
		right(t, "behind SetStart and SetClean", f)
		f.Crash([]int64{r.Int64N(99), r.Int64N(99), math.MaxInt64, math.MinInt64}, []byte{1, 0, 255})
		right(t, "behind a crash", f)
	}
}

// anyBytes returns bytes by chance, some of which begin as a log or as a start does.
func anyBytes(r *rand.Rand) []byte {
	p := make([]byte, r.IntN(90))
	for i := range p {
		p[i] = byte(r.Uint32())
	}
	switch r.IntN(6) {
	case 0:
		return bytes.Repeat([]byte{byte(r.IntN(3) * 255 / 2)}, len(p))
	case 1:
		return crc.Put(p)
	case 2:
		return written(extremes()[r.IntN(len(extremes()))])
	case 3:
		return append(encoded(free(int64(r.IntN(6)), 1+r.IntN(5))), p...)
	case 4:
		q := encoded(mixed(int64(r.IntN(3)))...)
		q[r.IntN(len(q))] ^= byte(r.Uint32())
		return q
	}
	return p
}

func TestLogsOfEveryLength(t *testing.T) {
	for _, x := range []byte{0, 1, 15, 127, 128, 255} {
		for n := range 200 {
			f := files.New()
			for _, base := range []int64{0, 1, api.MaxOffset} {
				f.Append(logFile(base), bytes.Repeat([]byte{x}, n))
			}
			for _, start := range []int64{0, 1, 2, api.MaxOffset} {
				place.SetStart(f, start)
				loads(t, "of logs without batches", f, start)
			}
		}
	}
}

func TestAnyNumbers(t *testing.T) {
	for _, n := range extremes() {
		f := partition()
		want := api.OK
		if n < 0 || n > api.MaxOffset {
			want = api.ErrArg
		}
		if why := place.SetStart(f, n); why != want {
			t.Errorf("P16.1: SetStart of %d: %d, want %d", n, int(why), int(want))
		}
		right(t, "behind SetStart of any number", f)
		for _, more := range extremes() {
			for _, most := range extremes() {
				if place.Roll(int(n), int(more), int(most)) && n <= 0 {
					t.Errorf("P16.1: Roll(%d, %d, %d): true", n, more, most)
				}
			}
		}
	}
}

// A log of many batches, and many logs, are told soon.
func TestMuch(t *testing.T) {
	var l []api.Batch
	at := int64(0)
	for range 3000 {
		b := free(at, api.MaxRecords)
		l = append(l, b)
		at = end(b)
	}
	f := files.New()
	lay(f, 0, l...)
	loads(t, "of many batches", f, 0, l...)
	f = files.New()
	for i, b := range l {
		lay(f, l[i/50*50].Base, b)
	}
	loads(t, "of many batches in many logs", f, 0, l...)
	place.SetStart(f, l[2001].Base)
	loads(t, "of many batches in many logs, from a start", f, l[2001].Base, l[2001:]...)
}
