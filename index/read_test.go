package index

import (
	"bytes"
	"fmt"
	"math"
	"slices"
	"testing"

	"bordereau/api"
)

// five are batches with an entry, without, with, without, with, if every is 20.
func five() []added {
	return []added{{offset: 11, at: 3, size: 7}, {offset: 12, at: 10, size: 12}, {offset: 15, at: 23, size: 9}, {offset: 16, at: 42, size: 1}, {offset: 99, at: 200, size: 9}}
}

// none fails the test unless there is no such index.
func none(t *testing.T, what string, base int64, every int, b []byte) {
	t.Helper()
	if x, ok := Read(base, every, b); ok || x != nil {
		t.Errorf("P8.1: Read(%d, %d, %x), %s: %v, %v", base, every, b, what, x, ok)
	}
}

func TestBytes(t *testing.T) {
	x := New(10, 20)
	if got := x.Bytes(); len(got) > 0 {
		t.Errorf("P8.1: Bytes of no entries: %x", got)
	}
	x.Add(10, 0, 30)
	if got := x.Bytes(); string(got) != string(make([]byte, 16)) {
		t.Errorf("P8.1: Bytes of an entry at the base and at 0: %x", got)
	}
	x.Add(10+258, 0x010203, 1)
	want := string(make([]byte, 16)) + "\x00\x00\x00\x00\x00\x00\x01\x02" + "\x00\x00\x00\x00\x00\x01\x02\x03"
	if got := x.Bytes(); string(got) != want {
		t.Errorf("P8.1: Bytes: %x, want %x", got, want)
	}
	entriesAre(t, "P8.1: Bytes", made(t, 10, 20, five()...), 10, Entry{11, 3}, Entry{15, 23}, Entry{99, 200})
	entriesAre(t, "P8.1: Bytes with the greatest base", made(t, api.MaxOffset, 1, added{offset: api.MaxOffset + 3, at: 7, size: 1}), api.MaxOffset, Entry{api.MaxOffset + 3, 7})
}

func TestRead(t *testing.T) {
	for _, base := range []int64{0, 1, 10, api.MaxOffset} {
		entriesAre(t, "P8.1: Read of none", back(t, base, 20), base)
		entriesAre(t, "P8.1: Read of one", back(t, base, 20, 0, 0), base, Entry{base, 0})
		entriesAre(t, "P8.1: Read of one elsewhere", back(t, base, 20, 7, 9), base, Entry{base + 7, 9})
		entriesAre(t, "P8.1: Read of three", back(t, base, 20, 1, 3, 5, 23, 89, 200), base, Entry{base + 1, 3}, Entry{base + 5, 23}, Entry{base + 89, 200})
	}
}

func TestReadOfBytes(t *testing.T) {
	for _, base := range []int64{0, 10, 11} {
		for _, every := range []int{1, 7, 19, 20, 21, 1 << 30} {
			x := made(t, base, every, five()...)
			y, ok := Read(base, every, x.Bytes())
			if !ok {
				t.Fatalf("P8.1: Read of Bytes, base %d, every %d: false", base, every)
			}
			entriesAre(t, fmt.Sprintf("P8.1: Read of Bytes, base %d, every %d", base, every), y, base, x.Entries()...)
		}
	}
}

// Offsets count from the base, so the same bytes tell of others if they are read with another one.
func TestReadWithAnotherBase(t *testing.T) {
	b := made(t, 10, 20, five()...).Bytes()
	y, ok := Read(1000, 20, b)
	if !ok {
		t.Fatal("P8.1: Read with another base: false")
	}
	entriesAre(t, "P8.1: Read with another base", y, 1000, Entry{1001, 3}, Entry{1005, 23}, Entry{1089, 200})
}

func TestReadRefusesPlaces(t *testing.T) {
	for _, c := range places() {
		for _, b := range [][]byte{nil, {}, long(0, 0), long(0, 0, 1, 1<<30)} {
			x, ok := Read(c.base, c.every, b)
			if ok != c.want || (x != nil) != c.want {
				t.Errorf("P8.1: Read(%d, %d, %x): %v, %v", c.base, c.every, b, x, ok)
			}
		}
	}
}

func TestReadRefusesLengths(t *testing.T) {
	b := made(t, 10, 20, five()...).Bytes()
	for n := range len(b) + 1 {
		if n%16 != 0 {
			none(t, "bytes that are cut off", 10, 20, b[:n])
			continue
		}
		y, ok := Read(10, 20, b[:n])
		if !ok || !bytes.Equal(y.Bytes(), b[:n]) {
			t.Errorf("P8.1: Read of %d bytes: %v", n, ok)
		}
	}
	for n := 1; n < 16; n++ {
		none(t, "bytes with more behind them", 10, 20, append(bytes.Clone(b), make([]byte, n)...))
		none(t, "zeros", 10, 20, make([]byte, n))
	}
}

func TestReadRefusesNumbers(t *testing.T) {
	for _, c := range []struct {
		what string
		l    []int64
	}{
		{"an offset ahead of the base", []int64{-1, 0}},
		{"an offset far ahead of the base", []int64{-10, 0}},
		{"the least offset", []int64{math.MinInt64, 0}},
		{"a position ahead of 0", []int64{0, -1}},
		{"the least position", []int64{0, math.MinInt64}},
		{"both", []int64{-1, -1}},
		{"an offset that is too great", []int64{math.MaxInt64, 0}},
		{"an offset that is too great by one", []int64{math.MaxInt64 - 9, 0}},
		{"a second offset that is too great", []int64{5, 0, math.MaxInt64 - 9, 20}},
		{"a second offset ahead of the base", []int64{5, 0, -1, 20}},
		{"a second position ahead of 0", []int64{5, 0, 6, -1}},
		{"the least second position", []int64{5, 0, 6, math.MinInt64}},
		{"equal entries", []int64{5, 20, 5, 20}},
		{"equal zeros", []int64{0, 0, 0, 0}},
		{"equal offsets", []int64{5, 0, 5, 20}},
		{"falling offsets", []int64{6, 0, 5, 40}},
		{"equal positions", []int64{5, 20, 6, 20}},
		{"falling positions", []int64{5, 20, 6, 3}},
		{"positions that fall by one", []int64{5, 20, 6, 19}},
		{"falling entries", []int64{5, 20, 4, 0}},
		{"equal offsets at the end", []int64{5, 20, 6, 40, 6, 60}},
		{"equal positions at the end", []int64{5, 20, 6, 40, 7, 40}},
		{"an offset that falls behind the one before the last", []int64{5, 20, 9, 40, 7, 60}},
		{"a position that falls behind the one before the last", []int64{5, 20, 6, 60, 7, 40}},
		{"equal offsets at the front", []int64{5, 0, 5, 20, 6, 40}},
	} {
		none(t, c.what, 10, 20, long(c.l...))
		none(t, c.what, 10, 1, long(c.l...))
	}
}

func TestReadOfGreatNumbers(t *testing.T) {
	for _, base := range []int64{0, 1, 10, api.MaxOffset} {
		for _, offset := range []int64{api.MaxOffset, api.MaxOffset + 1, math.MaxInt64 - 1, math.MaxInt64} {
			at := math.MaxInt - 1
			x := back(t, base, 1, offset-base, int64(at))
			entriesAre(t, "P8.1: Read of great numbers", x, base, Entry{offset, at})
		}
		x := back(t, base, 1<<30, 0, 0, math.MaxInt64-base, math.MaxInt)
		entriesAre(t, "P8.1: Read of the greatest numbers", x, base, Entry{base, 0}, Entry{math.MaxInt64, math.MaxInt})
		run(t, "behind the greatest numbers", x, added{math.MaxInt64, math.MaxInt, 1, false}, added{math.MinInt64, math.MinInt, 1, false}, added{base, 0, 1, false})
		if base > 0 {
			none(t, "an offset that no int64 holds", base, 1, long(math.MaxInt64-base+1, 0))
		}
	}
}

// The chapter asks of the entries that they ascend, and no more: an index that was written with a smaller every is read.
func TestReadOfNearEntries(t *testing.T) {
	x := back(t, 10, 20, 1, 3, 2, 4, 3, 23)
	entriesAre(t, "P8.1: Read of entries nearer than every", x, 10, Entry{11, 3}, Entry{12, 4}, Entry{13, 23})
	run(t, "behind entries nearer than every", x, added{14, 42, 1, true}, added{15, 43, 1, true})
	entriesAre(t, "P8.1: Add behind entries nearer than every", x, 10, Entry{11, 3}, Entry{12, 4}, Entry{13, 23}, Entry{15, 43})
}

// An index that was read goes on as the one that was written does, if what it is given lies behind all batches.
func TestAddBehindRead(t *testing.T) {
	x := back(t, 10, 20, 1, 3, 5, 23, 89, 200)
	run(t, "behind Read", x,
		added{99, 300, 5, false}, added{98, 300, 5, false}, added{10, 300, 5, false}, added{100, 200, 5, false}, added{100, 199, 5, false},
		added{100, -1, 5, false}, added{100, 300, 0, false}, added{100, 300, -1, false},
		added{100, 219, 5, true})
	entriesAre(t, "P8.1: one byte nearer than every behind Read", x, 10, Entry{11, 3}, Entry{15, 23}, Entry{99, 200})
	run(t, "behind Read and Add", x, added{101, 223, 5, false}, added{100, 224, 5, false}, added{101, 224, 5, true})
	entriesAre(t, "P8.1: farther than every behind Read", x, 10, Entry{11, 3}, Entry{15, 23}, Entry{99, 200}, Entry{101, 224})
	x = back(t, 10, 20, 89, 200)
	run(t, "behind Read", x, added{100, 220, 5, true})
	entriesAre(t, "P8.1: exactly every behind Read", x, 10, Entry{99, 200}, Entry{100, 220})
	x = back(t, 10, 20)
	run(t, "behind Read of none", x, added{9, 0, 1, false}, added{10, -1, 1, false}, added{10, 0, 1, true}, added{11, 1, 1, true})
	entriesAre(t, "P8.1: Add behind Read of none", x, 10, Entry{10, 0})
}

func TestCut(t *testing.T) {
	for _, c := range []struct {
		what string
		at   int
		left int // entries
		last int // batches
	}{
		{"the least", math.MinInt, 0, 0}, {"ahead of 0", -1, 0, 0}, {"0", 0, 0, 0}, {"ahead of the first batch", 2, 0, 0},
		{"at the first batch", 3, 0, 0}, {"in the first batch", 4, 1, 1}, {"in the first batch's last byte", 9, 1, 1},
		{"at a batch without an entry", 10, 1, 1}, {"in a batch without an entry", 11, 1, 2},
		{"at the end of a batch", 22, 1, 2}, {"at an entry", 23, 1, 2}, {"in a batch with an entry", 24, 2, 3},
		{"between two batches", 32, 2, 3}, {"farther between two batches", 35, 2, 3}, {"ahead of a batch", 41, 2, 3},
		{"at a second batch without an entry", 42, 2, 3}, {"behind it", 43, 2, 4}, {"ahead of the last batch", 199, 2, 4},
		{"at the last batch", 200, 2, 4}, {"in the last batch", 201, 3, 5}, {"behind all", 209, 3, 5}, {"the greatest", math.MaxInt, 3, 5},
	} {
		what := fmt.Sprintf("P8.1: Cut(%d), %s", c.at, c.what)
		all := []Entry{{11, 3}, {15, 23}, {99, 200}}
		x := made(t, 10, 20, five()...)
		x.Cut(c.at)
		entriesAre(t, what, x, 10, all[:c.left]...)
		x.Cut(c.at)
		entriesAre(t, what+", twice", x, 10, all[:c.left]...)
		y := made(t, 10, 20, five()[:c.last]...)
		entriesAre(t, what+", made of what is left", y, 10, all[:c.left]...)
		goOn(t, what, x, y)
	}
}

// goOn fails the test unless both take the same, which is asked with what lies around the five batches.
func goOn(t *testing.T, what string, x, y *Index) {
	t.Helper()
	for _, f := range five() {
		for _, offset := range []int64{f.offset - 1, f.offset, f.offset + 1} {
			for _, at := range []int{f.at - 1, f.at, f.at + 1, f.at + f.size - 1, f.at + f.size, f.at + 19, f.at + 20} {
				if got, want := x.Add(offset, at, 1), y.Add(offset, at, 1); got != want {
					t.Errorf("%s: Add(%d, %d, 1): %v, want %v", what, offset, at, got, want)
				}
			}
		}
	}
	if got, want := x.Entries(), y.Entries(); !slices.Equal(got, want) {
		t.Errorf("%s: what was added behind it gets the entries %v, want %v", what, got, want)
	}
}

func TestAddBehindCut(t *testing.T) {
	x := made(t, 10, 20, five()...)
	x.Cut(42)
	run(t, "behind a Cut", x, added{15, 32, 20, false}, added{16, 31, 1, false}, added{16, 22, 1, false}, added{16, 32, 20, true}, added{17, 51, 1, false}, added{17, 52, 1, true})
	entriesAre(t, "P8.1: Add behind a Cut", x, 10, Entry{11, 3}, Entry{15, 23}, Entry{17, 52})
	x.Cut(23)
	run(t, "behind a Cut of an entry", x, added{12, 22, 1, false}, added{13, 21, 1, false}, added{13, 22, 1, true}, added{14, 23, 1, true})
	entriesAre(t, "P8.1: Add behind a Cut of an entry", x, 10, Entry{11, 3}, Entry{14, 23})
	x.Cut(0)
	run(t, "behind a Cut of all", x, added{9, 0, 1, false}, added{10, -1, 1, false}, added{10, 0, 1, true}, added{11, 1, 1, true})
	entriesAre(t, "P8.1: Add behind a Cut of all", x, 10, Entry{10, 0})
}

// A batch that begins ahead of the Cut stays with all its bytes.
func TestCutInABatch(t *testing.T) {
	x := made(t, 0, 1, added{offset: 5, at: 10, size: 10}, added{offset: 7, at: 20, size: 10})
	x.Cut(25)
	run(t, "behind a Cut in a batch", x, added{8, 25, 1, false}, added{8, 29, 1, false}, added{7, 30, 1, false}, added{8, 30, 1, true})
}

func TestCutOfRead(t *testing.T) {
	for at, want := range map[int]int{0: 0, 3: 0, 4: 1, 23: 1, 24: 2, 200: 2, 201: 3, 500: 3} {
		x := back(t, 10, 20, 1, 3, 5, 23, 89, 200)
		x.Cut(at)
		entriesAre(t, fmt.Sprintf("P8.1: Read, and Cut(%d)", at), x, 10, []Entry{{11, 3}, {15, 23}, {99, 200}}[:want]...)
	}
	x := back(t, 10, 20, 1, 3, 5, 23, 89, 200)
	x.Cut(200)
	run(t, "behind Read and a Cut", x, added{15, 43, 1, false}, added{16, 23, 1, false}, added{16, 43, 1, true})
	entriesAre(t, "P8.1: Add behind Read and a Cut", x, 10, Entry{11, 3}, Entry{15, 23}, Entry{16, 43})
}

// fill overwrites all elements of l and its spare capacity.
func fill[T any](l []T, with T) {
	l = l[:cap(l)]
	for i := range l {
		l[i] = with
	}
}

func TestResultsAreNewMemory(t *testing.T) {
	for n := range 6 {
		x := made(t, 10, 1, five()[:n]...)
		var want []Entry
		for _, b := range five()[:n] {
			want = append(want, Entry{b.offset, b.at})
		}
		e, f, b, c := x.Entries(), x.Entries(), x.Bytes(), x.Bytes()
		fill(e, Entry{1, 1})
		fill(b, '#')
		entriesAre(t, "R2: results were changed", x, 10, want...)
		if !slices.Equal(f, want) || !bytes.Equal(c, long(numbers(10, want)...)) {
			t.Errorf("R2: two results share memory: %v, %x", f, c)
		}
		e = x.Entries()
		x.Add(1000, 1000, 1)
		fill(e, Entry{2, 2})
		entriesAre(t, "R2: a result was changed behind Add", x, 10, append(want, Entry{1000, 1000})...)
		x.Cut(0)
		x.Add(2000, 2000, 1)
		if !slices.Equal(f, want) || !bytes.Equal(c, long(numbers(10, want)...)) {
			t.Errorf("R2: results were changed by later calls: %v, %x", f, c)
		}
		f = append(f, Entry{3, 3})
		entriesAre(t, "R2: a result was appended to", x, 10, Entry{2000, 2000})
	}
}

func TestReadLeavesItsArgument(t *testing.T) {
	whole := long(1, 3, 5, 23, 89, 200, 90, 300)
	was := bytes.Clone(whole)
	x, ok := Read(10, 20, whole[:48])
	if !ok || !bytes.Equal(whole, was) {
		t.Fatalf("R2: Read: %v, and it made %x of its argument and what follows it", ok, whole)
	}
	entriesAre(t, "R5: Read of a part", x, 10, Entry{11, 3}, Entry{15, 23}, Entry{99, 200})
	none(t, "R5: a part that is cut off", 10, 20, whole[:47])
	fill(whole, '#')
	entriesAre(t, "R2: the argument was changed behind Read", x, 10, Entry{11, 3}, Entry{15, 23}, Entry{99, 200})
	x.Add(500, 500, 1)
	x.Cut(0)
	if string(whole) != string(bytes.Repeat([]byte{'#'}, 64)) {
		t.Errorf("R2: Add or Cut changed what Read was given: %x", whole)
	}
}

// What is done to one index does not reach another one, neither a new one nor one of the same bytes.
func TestIndexesAreIndependent(t *testing.T) {
	x := made(t, 10, 20, five()...)
	y, z := back(t, 10, 20, 1, 3, 5, 23, 89, 200), back(t, 10, 20, 1, 3, 5, 23, 89, 200)
	y.Cut(23)
	y.Add(50, 60, 1)
	entriesAre(t, "R4: a new one", New(10, 20), 10)
	entriesAre(t, "R4: the one that was turned", y, 10, Entry{11, 3}, Entry{50, 60})
	entriesAre(t, "R4: one of the same bytes", z, 10, Entry{11, 3}, Entry{15, 23}, Entry{99, 200})
	entriesAre(t, "R4: one of the same batches", x, 10, Entry{11, 3}, Entry{15, 23}, Entry{99, 200})
}
