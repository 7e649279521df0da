package place_test

import (
	"bytes"
	"fmt"
	"math"
	"math/big"
	"slices"
	"testing"

	"bordereau/api"
	"bordereau/batch"
	"bordereau/files"
	"bordereau/place"
)

// free returns a batch of count records of no producer.
func free(base int64, count int) api.Batch {
	return data(base, -1, -1, -1, false, count)
}

// data returns a batch of count records.
func data(base, producer int64, epoch int, seq int64, txn bool, count int) api.Batch {
	b := api.Batch{Base: base, Producer: producer, Epoch: epoch, Seq: seq, Txn: txn}
	for i := range count {
		b.Recs = append(b.Recs, api.Rec{Key: fmt.Sprintf("k%d", base+int64(i)), Value: "value"})
	}
	return b
}

// mark returns a marker.
func mark(base, producer int64, epoch, marker int) api.Batch {
	return api.Batch{Base: base, Producer: producer, Epoch: epoch, Seq: -1, Txn: true, Marker: marker}
}

// mixed are six batches of every kind, from base on; the last one ends at base + 11.
func mixed(base int64) []api.Batch {
	return []api.Batch{
		free(base, 2), data(base+2, 4, 1, 0, true, 3), data(base+5, 9, 0, 0, false, 1),
		mark(base+6, 4, 1, api.Commit), data(base+7, 4, 1, 3, true, 3), mark(base+10, 4, 1, api.Abort),
	}
}

// encoded returns the bytes of batches, which are valid.
func encoded(l ...api.Batch) []byte {
	var out []byte
	for _, b := range l {
		p, why := batch.Bytes(b)
		if why != api.OK {
			panic(fmt.Sprintf("batch.Bytes of %v: %d", b, int(why)))
		}
		out = append(out, p...)
	}
	return out
}

// logFile is the name of a log.
func logFile(base int64) string {
	return fmt.Sprintf("%020d.log", base)
}

// lay appends the batches to the log with that base, which is there then even if they are none.
func lay(f *files.FS, base int64, l ...api.Batch) {
	f.Append(logFile(base), encoded(l...))
}

// others are files that are none of a partition, and those that hold what logs hold.
func others() []string {
	return []string{"00000000000000000003.index", "00000000000000000003.snapshot", "00000000000000000003.aborts", "log", "0.log", "start.old", "cleaner", "世.log"}
}

// with returns a file system with these files, each of which holds its name and is synced in its first byte alone.
func with(names ...string) *files.FS {
	f := files.New()
	for _, s := range names {
		f.Append(s, []byte(s[:1]))
		f.Sync(s)
		f.Append(s, []byte(s[1:]))
	}
	return f
}

// full returns a file system with so many files, of which the last are these.
func full(n int, names ...string) *files.FS {
	f := files.New()
	for i := range n - len(names) {
		f.Append(fmt.Sprintf("f%02d", i), []byte("x"))
	}
	for _, s := range names {
		f.Append(s, []byte("x"))
	}
	return f
}

// held returns a file's durable bytes, a bar, and its pending ones. What is durable is what a crash that keeps nothing leaves.
func held(f *files.FS, file string) string {
	x := f.Copy()
	x.Crash(nil, nil)
	all, ok := f.Read(file)
	durable, _ := x.Read(file)
	if !ok {
		return "none"
	}
	return fmt.Sprintf("%q|%q", durable, all[len(durable):])
}

// state returns all files as text, but for those that are left out.
func state(f *files.FS, but ...string) string {
	out := ""
	for _, file := range f.List() {
		if !slices.Contains(but, file) {
			out += file + "=" + held(f, file) + " "
		}
	}
	return out
}

// ask calls everything that tells, and fails the test if that changes the files or is a deed.
func ask(t *testing.T, f *files.FS) {
	t.Helper()
	was, deeds := state(f), f.Deeds()
	place.Segments(f)
	place.Load(f)
	place.Start(f)
	place.Clean(f)
	if got := state(f); got != was || f.Deeds() != deeds {
		t.Errorf("R2: what only tells has changed the files, by %d deeds: %s, want %s", f.Deeds()-deeds, got, was)
	}
}

// segments fails the test unless these are the logs.
func segments(t *testing.T, what string, f *files.FS, want ...int64) {
	t.Helper()
	ask(t, f)
	if got := place.Segments(f); !slices.Equal(got, want) {
		t.Errorf("P16.1: Segments %s: %d, want %d", what, got, want)
	}
}

// loads fails the test unless Load tells this.
func loads(t *testing.T, what string, f *files.FS, start int64, want ...api.Batch) {
	t.Helper()
	ask(t, f)
	got, l := place.Load(f)
	if got != start || !slices.EqualFunc(l, want, batch.Same) {
		t.Errorf("P16.2: Load %s: %d, %v, want %d, %v", what, got, l, start, want)
	}
}

// The examples of the chapter.
func TestExamples(t *testing.T) {
	loads(t, "of a new file system", files.New(), 0)
	if place.Roll(0, 9, 1) {
		t.Error("P16.1: Roll(0, 9, 1): true")
	}
	if place.Clean(files.New()) {
		t.Error("P16.1: Clean of a new file system: true")
	}
}

func TestSegments(t *testing.T) {
	f := files.New()
	segments(t, "of a new file system", f)
	for i, base := range []int64{7, 10, 0, api.MaxOffset, 100, 99, 9, 1 << 32, api.MaxOffset - 1, 1, 1 << 31} {
		lay(f, base)
		if got := place.Segments(f); len(got) != i+1 || !slices.IsSorted(got) || !slices.Contains(got, base) {
			t.Errorf("P16.1: Segments with %d logs, the last one %d: %d", i+1, base, got)
		}
	}
	all := []int64{0, 1, 7, 9, 10, 99, 100, 1 << 31, 1 << 32, api.MaxOffset - 1, api.MaxOffset}
	segments(t, "of logs that were written in any order", f, all...)
	for _, s := range others() {
		f.Append(s, []byte("x"))
	}
	place.SetStart(f, 5)
	place.SetClean(f, true)
	segments(t, "beside other files", f, all...)
	f.Append(logFile(9), []byte("what is no batch"))
	f.Truncate(logFile(9), 3)
	segments(t, "whatever the logs hold", f, all...)
	f.Remove(logFile(0))
	f.Rename(logFile(7), logFile(8))
	f.Rename(logFile(99), "gone")
	segments(t, "behind Remove and Rename", f, 1, 8, 9, 10, 100, 1<<31, 1<<32, api.MaxOffset-1, api.MaxOffset)
	f.Crash(nil, nil)
	segments(t, "behind a crash", f, 1, 8, 9, 10, 100, 1<<31, 1<<32, api.MaxOffset-1, api.MaxOffset)
}

// Every order in which four logs are written.
func TestSegmentsInEveryOrder(t *testing.T) {
	bases := []int64{0, 9, 10, 1 << 33}
	for n := range 256 {
		f, seen := files.New(), []int64{}
		for i := range 4 {
			base := bases[n>>(2*i)&3]
			lay(f, base, free(base, 1))
			seen = append(seen, base)
		}
		slices.Sort(seen)
		segments(t, fmt.Sprintf("of order %d", n), f, slices.Compact(seen)...)
	}
}

func TestSegmentsOfAsManyFilesAsMayBe(t *testing.T) {
	f, want := files.New(), []int64{}
	for i := range int64(api.MaxFiles) {
		base := (i * 37) % api.MaxFiles * (api.MaxOffset / api.MaxFiles)
		lay(f, base)
		want = append(want, base)
	}
	slices.Sort(want)
	segments(t, "of MaxFiles logs", f, want...)
}

// nearly are names that files may have, each of them nearly that of a log.
func nearly() []string {
	return []string{
		"7.log", "0000000000000000007.log", "000000000000000000007.log", "000000000000000000000.log", "00000000000000000007", "00000000000000000007.",
		"00000000000000000007log", "00000000000000000007-log", "00000000000000000007..log", ".00000000000000000007.log", "00000000000000000007.log.",
		"00000000000000000007.log.log", "00000000000000000007.log.new", "00000000000000000007.lo", "00000000000000000007.logs", "00000000000000000007.llog",
		"00000000000000000007.index", "00000000000000000007.snapshot", "00000000000000000007.aborts", "00000000000000000007.l0g", "x00000000000000000007.log",
		"0000000000000000007x.log", "-0000000000000000007.log", "-00000000000000000007.log", "0000000000000000000-.log", "0000000000000000000\u0667.log",
		"00000000000000000007.\uff4c\uff4f\uff47", "00000001099511627777.log", "00000009223372036854.log", "09223372036854775807.log", "09223372036854775808.log",
		"18446744073709551615.log", "18446744073709551616.log", "18446744073709551623.log", "99999999999999999999.log", "log", ".log", "log.00000000000000000007",
	}
}

func TestSegmentsOfNamesThatAreNearlyALogs(t *testing.T) {
	alone := files.New()
	for _, s := range nearly() {
		f := files.New()
		lay(f, 7, free(7, 1))
		lay(f, 3, free(3, 4))
		for _, x := range []*files.FS{f, alone} {
			if why := x.Append(s, encoded(free(0, 3))); why != api.OK {
				t.Fatalf("P7.1: Append to %q: %d", s, int(why))
			}
		}
		segments(t, "beside "+s, f, 3, 7)
		place.SetStart(f, 3)
		loads(t, "beside "+s, f, 3, free(3, 4), free(7, 1))
	}
	segments(t, "of names that are nearly a log's", alone)
	loads(t, "of names that are nearly a log's", alone, 0)
}

func TestRoll(t *testing.T) {
	for _, c := range []struct {
		size, more, most int
		want             bool
	}{
		{0, 9, 1, false}, {0, 0, -1, false}, {0, math.MaxInt, 1, false}, {0, math.MaxInt, math.MinInt, false},
		{-1, 9, 1, false}, {-5, 100, 1, false}, {math.MinInt, math.MaxInt, -100, false}, {-1, 0, math.MinInt, false}, {math.MinInt, -1, 0, false},
		{1, 8, 9, false}, {1, 9, 9, true}, {1, 7, 9, false}, {1, 0, 1, false}, {1, 0, 0, true}, {1, 1, 1, true},
		{1000, 24, 1024, false}, {1000, 25, 1024, true}, {1024, 0, 1024, false}, {1025, 0, 1024, true}, {1 << 30, 1, 1 << 30, true},
		{5, -3, 1, true}, {5, -4, 1, false}, {5, -5, -1, true}, {5, -5, 0, false}, {5, -9, -5, true}, {5, -9, -4, false},
		{math.MaxInt, 0, math.MaxInt, false}, {math.MaxInt, 1, math.MaxInt, true}, {1, math.MaxInt, math.MaxInt, true}, {1, math.MaxInt - 1, math.MaxInt, false},
		{math.MaxInt, math.MaxInt, math.MaxInt, true}, {math.MaxInt, math.MaxInt, -1, true}, {math.MaxInt, math.MinInt, -1, false}, {math.MaxInt, math.MinInt, -2, true},
		{1, math.MinInt, math.MinInt, true}, {1, math.MinInt, math.MinInt + 1, false}, {1, 1, math.MinInt, true},
	} {
		if got := place.Roll(c.size, c.more, c.most); got != c.want {
			t.Errorf("P16.1: Roll(%d, %d, %d): %v", c.size, c.more, c.most, got)
		}
	}
}

// ints are the ends of int and numbers next to them, to 0, and to what is common.
func ints() []int {
	var out []int
	for _, n := range []int{math.MinInt, math.MinInt / 2, -1 << 31, -4096, 0, 64, 1024, 4096, 1 << 30, 1 << 31, math.MaxInt / 2, math.MaxInt} {
		for more := -2; more <= 2; more++ {
			out = append(out, n+more)
		}
	}
	return out
}

// Held against numbers of any length.
func TestRollOfAnyNumbers(t *testing.T) {
	for _, size := range ints() {
		for _, more := range ints() {
			sum := new(big.Int).Add(big.NewInt(int64(size)), big.NewInt(int64(more)))
			for _, most := range ints() {
				want := size > 0 && sum.Cmp(big.NewInt(int64(most))) > 0
				if got := place.Roll(size, more, most); got != want {
					t.Errorf("P16.1: Roll(%d, %d, %d): %v", size, more, most, got)
				}
			}
		}
	}
}

// Where the sum is most just, and one more.
func TestRollAtMost(t *testing.T) {
	for size := 1; size < 40; size++ {
		for more := range 40 {
			if place.Roll(size, more, size+more) || !place.Roll(size, more, size+more-1) || place.Roll(size, more, size+more+1) || place.Roll(-size, more, more-size-1) || place.Roll(0, more, more-1) {
				t.Errorf("P16.1: Roll of %d and %d", size, more)
			}
		}
	}
}

func TestNil(t *testing.T) {
	for _, n := range []int64{0, 5, -1, api.MaxOffset, api.MaxOffset + 1, math.MinInt64, math.MaxInt64} {
		if why := place.SetStart(nil, n); why != api.ErrArg {
			t.Errorf("R1: SetStart of nil and %d: %d", n, int(why))
		}
	}
	if a, b := place.SetClean(nil, true), place.SetClean(nil, false); a != api.ErrArg || b != api.ErrArg {
		t.Errorf("R1: SetClean of nil: %d, %d", int(a), int(b))
	}
	if l := place.Segments(nil); len(l) > 0 {
		t.Errorf("R1: Segments of nil: %d", l)
	}
	if n, ok := place.Start(nil); n != 0 || ok {
		t.Errorf("R1: Start of nil: %d, %v", n, ok)
	}
	if place.Clean(nil) {
		t.Error("R1: Clean of nil: true")
	}
	if n, l := place.Load(nil); n != 0 || len(l) > 0 {
		t.Errorf("R1: Load of nil: %d, %v", n, l)
	}
}

// same fails the test unless the file holds these bytes, all of them durable.
func same(t *testing.T, what string, f *files.FS, file string, want []byte) {
	t.Helper()
	got, ok := f.Read(file)
	if !ok || !bytes.Equal(got, want) || held(f, file) != fmt.Sprintf("%q|%q", want, "") {
		t.Errorf("P16.1: %s: the file %q holds %s, want %q, all durable", what, file, held(f, file), want)
	}
}
