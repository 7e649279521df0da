package index

import (
	"bytes"
	"encoding/binary"
	"fmt"
	"math"
	"slices"
	"testing"

	"bordereau/api"
)

// added is a batch, and what Add of it is to answer.
type added struct {
	offset   int64
	at, size int
	want     bool
}

// long is how the chapter of varint writes a number in eight bytes, by Go's library.
func long(l ...int64) []byte {
	var b []byte
	for _, n := range l {
		b = binary.BigEndian.AppendUint64(b, uint64(n))
	}
	return b
}

// numbers returns the numbers of which Bytes of these entries consists.
func numbers(base int64, l []Entry) []int64 {
	var out []int64
	for _, e := range l {
		out = append(out, e.Offset-base, int64(e.At))
	}
	return out
}

// made returns a new index to which these batches were added, all of which it takes.
func made(t *testing.T, base int64, every int, l ...added) *Index {
	t.Helper()
	x := New(base, every)
	if x == nil {
		t.Fatalf("P8.1: New(%d, %d): nil", base, every)
	}
	for i, b := range l {
		if !x.Add(b.offset, b.at, b.size) {
			t.Fatalf("P8.1: batch %d, Add(%d, %d, %d): false", i, b.offset, b.at, b.size)
		}
	}
	return x
}

// back returns the index whose Bytes are those numbers, of which there is one.
func back(t *testing.T, base int64, every int, l ...int64) *Index {
	t.Helper()
	x, ok := Read(base, every, long(l...))
	if !ok || x == nil {
		t.Fatalf("P8.1: Read(%d, %d, the numbers %d): %v, %v", base, every, l, x, ok)
	}
	return x
}

// entriesAre fails the test unless these are the entries of x, which has this base, by Entries, by Bytes and by Find.
func entriesAre(t *testing.T, what string, x *Index, base int64, want ...Entry) {
	t.Helper()
	if got := x.Entries(); !slices.Equal(got, want) {
		t.Errorf("%s: the entries %v, want %v", what, got, want)
	}
	if got, want := x.Bytes(), long(numbers(base, want)...); !bytes.Equal(got, want) {
		t.Errorf("%s: Bytes: %x, want %x", what, got, want)
	}
	at := 0
	for i, e := range want {
		if got := x.Find(e.Offset - 1); got != at {
			t.Errorf("%s: Find one ahead of the entry %d: %d, want %d", what, i, got, at)
		}
		if at = e.At; x.Find(e.Offset) != at {
			t.Errorf("%s: Find of the entry %d: %d, want %d", what, i, x.Find(e.Offset), at)
		}
	}
	if got := x.Find(math.MaxInt64); got != at {
		t.Errorf("%s: Find behind all: %d, want %d", what, got, at)
	}
	if got := x.Find(math.MinInt64); got != 0 {
		t.Errorf("%s: Find ahead of all: %d, want 0", what, got)
	}
}

// run adds the batches one after the other, and fails the test if one is answered otherwise than told.
func run(t *testing.T, what string, x *Index, l ...added) {
	t.Helper()
	for i, b := range l {
		was := x.Entries()
		got := x.Add(b.offset, b.at, b.size)
		if got != b.want {
			t.Errorf("P8.1: %s: batch %d, Add(%d, %d, %d): %v, want %v", what, i, b.offset, b.at, b.size, got, b.want)
		}
		if !got && !slices.Equal(x.Entries(), was) {
			t.Errorf("P8.1: %s: batch %d was refused, and left the entries %v, not %v", what, i, x.Entries(), was)
		}
	}
}

// places are the arguments of which New and Read take some.
func places() []struct {
	base  int64
	every int
	want  bool
} {
	return []struct {
		base  int64
		every int
		want  bool
	}{
		{0, 1, true}, {0, 2, true}, {0, 128, true}, {1, 1, true}, {0, 1<<30 - 1, true}, {0, 1 << 30, true}, {7, 1 << 30, true},
		{api.MaxOffset - 1, 1, true}, {api.MaxOffset, 1, true}, {api.MaxOffset, 1 << 30, true},
		{-1, 1, false}, {api.MaxOffset + 1, 1, false}, {math.MinInt64, 1, false}, {math.MaxInt64, 1, false},
		{1 << 41, 1, false}, {-1 << 32, 1, false},
		{0, 0, false}, {0, -1, false}, {0, 1<<30 + 1, false}, {0, math.MaxInt, false}, {0, math.MinInt, false},
		{-1, 0, false}, {api.MaxOffset + 1, 1<<30 + 1, false},
	}
}

func TestNew(t *testing.T) {
	for _, c := range places() {
		x := New(c.base, c.every)
		if (x != nil) != c.want {
			t.Errorf("P8.1: New(%d, %d): %v, want one: %v", c.base, c.every, x, c.want)
		}
		if x == nil {
			continue
		}
		what := fmt.Sprintf("P8.1: New(%d, %d)", c.base, c.every)
		entriesAre(t, what, x, c.base)
		for _, offset := range []int64{-1, 0, 1, c.base - 1, c.base, c.base + 1, api.MaxOffset} {
			if got := x.Find(offset); got != 0 {
				t.Errorf("%s: Find(%d): %d, want 0", what, offset, got)
			}
		}
		if x.Cut(0); x.Add(c.base-1, 0, 1) || !x.Add(c.base, 0, 1) {
			t.Errorf("%s: Add of a batch one ahead of the base, and of one at the base", what)
		}
		entriesAre(t, what+", and a batch", x, c.base, Entry{c.base, 0})
	}
}

// The examples of the chapter.
func TestExamples(t *testing.T) {
	if got := New(0, 1).Find(5); got != 0 {
		t.Errorf("P8.1: New(0, 1), Find(5): %d, want 0", got)
	}
	for _, b := range [][]byte{nil, {}} {
		x, ok := Read(0, 1, b)
		if !ok || x == nil {
			t.Fatalf("P8.1: Read of an empty byte string: %v, %v", x, ok)
		}
		entriesAre(t, "P8.1: Read of an empty byte string", x, 0)
	}
	run(t, "Add twice at one position", New(0, 1), added{3, 5, 2, true}, added{3, 5, 2, false})
	run(t, "Add twice at one position, of two offsets", New(0, 1), added{3, 5, 2, true}, added{4, 5, 2, false})
}

func TestAddOffsets(t *testing.T) {
	for _, base := range []int64{0, 1, 10, api.MaxOffset - 1, api.MaxOffset} {
		run(t, fmt.Sprintf("the offsets behind the base %d", base), New(base, 1),
			added{math.MinInt64, 0, 5, false}, added{base - 1, 0, 5, false}, added{-1, 0, 5, false},
			added{base, 0, 5, true},
			added{base - 1, 5, 5, false}, added{base, 5, 5, false}, added{base + 1, 5, 5, true},
			added{base, 10, 5, false}, added{base + 1, 10, 5, false}, added{base + 2, 10, 5, true},
			added{base + 100, 15, 5, true}, added{base + 99, 20, 5, false}, added{base + 100, 20, 5, false},
			added{base + 101, 20, 5, true}, added{-base - 1, 25, 5, false}, added{math.MinInt64, 25, 5, false},
			added{math.MaxInt64, 25, 5, true}, added{math.MaxInt64, 30, 5, false}, added{math.MinInt64, 30, 5, false})
	}
	run(t, "the first batch behind the base", New(10, 1), added{50, 0, 5, true}, added{11, 5, 5, false}, added{50, 5, 5, false}, added{51, 5, 5, true})
}

// An offset is held against that of the last batch, be there an entry of it or not.
func TestAddOffsetsWithoutEntries(t *testing.T) {
	x := New(0, 1000)
	run(t, "batches without entries", x,
		added{5, 0, 5, true}, added{7, 5, 5, true}, added{6, 10, 5, false}, added{7, 10, 5, false}, added{8, 10, 5, true})
	entriesAre(t, "P8.1: batches without entries", x, 0, Entry{5, 0})
}

func TestAddPositions(t *testing.T) {
	for _, every := range []int{1, 7, 1 << 30} {
		run(t, fmt.Sprintf("the positions with an entry every %d bytes", every), New(0, every),
			added{1, math.MinInt, 5, false}, added{1, -1, 5, false}, added{1, -5, 5, false},
			added{1, 3, 7, true},
			added{2, math.MinInt, 1, false}, added{2, -1, 1, false}, added{2, 0, 1, false}, added{2, 0, 3, false}, added{2, 3, 1, false},
			added{2, 4, 1, false}, added{2, 9, 1, false}, added{2, 10, 1, true},
			added{3, 10, 1, false}, added{3, 11, 50, true},
			added{4, 11, 1, false}, added{4, 60, 1, false}, added{4, 61, 2, true},
			added{5, 62, 2, false}, added{5, 1000, 2, true}, added{6, 500, 2, false}, added{6, 1001, 2, false}, added{6, 1002, 2, true})
	}
	run(t, "the position 0", New(0, 1), added{0, 0, 1, true}, added{1, 0, 1, false}, added{1, 1, 1, true})
	run(t, "a first position behind 0", New(0, 1), added{0, 100, 1, true}, added{1, 50, 1, false}, added{1, 0, 1, false})
}

func TestAddSizes(t *testing.T) {
	x := New(0, 1)
	run(t, "the sizes", x,
		added{1, 0, 0, false}, added{1, 0, -1, false}, added{1, 0, math.MinInt, false}, added{1, 0, 1, true},
		added{2, 1, 0, false}, added{2, 1, -1, false}, added{2, 1, -5, false}, added{2, 1, math.MinInt, false}, added{2, 1, 1, true},
		added{3, 2, 2, true}, added{4, 3, 1, false}, added{4, 4, 1, true})
	entriesAre(t, "P8.1: the sizes", x, 0, Entry{1, 0}, Entry{2, 1}, Entry{3, 2}, Entry{4, 4})
}

// What was refused is as if it had not been asked, or the batches behind it would be refused too.
func TestAddRefusedChangesNothing(t *testing.T) {
	x := New(10, 20)
	run(t, "ahead of the first batch", x,
		added{9, 70, 5, false}, added{90, -1, 50, false}, added{90, 70, 0, false}, added{90, 70, -5, false}, added{10, 0, 30, true})
	run(t, "behind the first batch", x,
		added{10, 70, 50, false}, added{90, 29, 50, false}, added{90, 70, 0, false}, added{90, -1, 50, false}, added{9, 70, 50, false},
		added{11, 30, 1, true})
	entriesAre(t, "P8.1: behind what was refused", x, 10, Entry{10, 0}, Entry{11, 30})
	// Had one of those been kept, it would be the last one behind this Cut.
	if x.Cut(1 << 29); !x.Add(12, 31, 1) {
		t.Error("P8.1: Add at the end of the last batch, behind what was refused: false")
	}
}

// Ends that no int holds are behind every position.
func TestAddGreatest(t *testing.T) {
	run(t, "the greatest size", New(0, 1), added{0, 1, math.MaxInt, true},
		added{1, 0, 1, false}, added{1, 1, 1, false}, added{1, 2, 1, false}, added{1, math.MaxInt, 1, false})
	run(t, "the greatest size at 0", New(0, 1), added{0, 0, math.MaxInt, true}, added{1, math.MaxInt - 1, 1, false}, added{1, math.MaxInt, 1, true})
	run(t, "the greatest position", New(0, 1), added{0, math.MaxInt - 1, 1, true}, added{1, math.MaxInt, 1, true},
		added{2, math.MaxInt, 1, false}, added{2, 0, 1, false}, added{2, math.MinInt, 1, false})
	run(t, "the greatest position and size", New(0, 1<<30), added{0, math.MaxInt, math.MaxInt, true},
		added{1, math.MaxInt, 1, false}, added{1, math.MaxInt - 1, 1, false}, added{1, 0, 1, false})
	x := made(t, 0, 1<<30, added{offset: 0, at: 0, size: 1}, added{offset: math.MaxInt64, at: math.MaxInt, size: math.MaxInt})
	entriesAre(t, "P8.1: the greatest of all", x, 0, Entry{0, 0}, Entry{math.MaxInt64, math.MaxInt})
}

// Ten batches of ten bytes each, and which of them get an entry.
func TestWhichGetEntries(t *testing.T) {
	for _, c := range []struct {
		every int
		want  []int
	}{
		{1, []int{0, 1, 2, 3, 4, 5, 6, 7, 8, 9}},
		{9, []int{0, 1, 2, 3, 4, 5, 6, 7, 8, 9}},
		{10, []int{0, 1, 2, 3, 4, 5, 6, 7, 8, 9}},
		{11, []int{0, 2, 4, 6, 8}},
		{19, []int{0, 2, 4, 6, 8}},
		{20, []int{0, 2, 4, 6, 8}},
		{21, []int{0, 3, 6, 9}},
		{30, []int{0, 3, 6, 9}},
		{31, []int{0, 4, 8}},
		{45, []int{0, 5}},
		{90, []int{0, 9}},
		{91, []int{0}},
		{1 << 30, []int{0}},
	} {
		for _, from := range []int{0, 1, 7} {
			x := New(100, c.every)
			for i := range 10 {
				if !x.Add(100+int64(2*i), from+10*i, 10) {
					t.Fatalf("P8.1: every %d, batch %d: false", c.every, i)
				}
			}
			var want []Entry
			for _, i := range c.want {
				want = append(want, Entry{100 + int64(2*i), from + 10*i})
			}
			entriesAre(t, fmt.Sprintf("P8.1: every %d, from %d on", c.every, from), x, 100, want...)
		}
	}
}

// The distance is from the last entry, not from the last batch, and to the beginning of the batch, not to its end.
func TestWhichGetEntriesOfSeveralSizes(t *testing.T) {
	l := []added{{offset: 0, at: 0, size: 15}, {offset: 1, at: 15, size: 4}, {offset: 2, at: 19, size: 1}, {offset: 3, at: 20, size: 100},
		{offset: 4, at: 120, size: 5}, {offset: 5, at: 130, size: 9}, {offset: 6, at: 139, size: 1}, {offset: 7, at: 1000, size: 1}}
	for every, want := range map[int][]Entry{
		1:    {{0, 0}, {1, 15}, {2, 19}, {3, 20}, {4, 120}, {5, 130}, {6, 139}, {7, 1000}},
		4:    {{0, 0}, {1, 15}, {2, 19}, {4, 120}, {5, 130}, {6, 139}, {7, 1000}},
		5:    {{0, 0}, {1, 15}, {3, 20}, {4, 120}, {5, 130}, {6, 139}, {7, 1000}},
		15:   {{0, 0}, {1, 15}, {4, 120}, {6, 139}, {7, 1000}},
		19:   {{0, 0}, {2, 19}, {4, 120}, {6, 139}, {7, 1000}},
		20:   {{0, 0}, {3, 20}, {4, 120}, {7, 1000}},
		21:   {{0, 0}, {4, 120}, {7, 1000}},
		1000: {{0, 0}, {7, 1000}},
		1001: {{0, 0}},
	} {
		entriesAre(t, fmt.Sprintf("P8.1: every %d", every), made(t, 0, every, l...), 0, want...)
	}
}

func TestEntryExactlyEvery(t *testing.T) {
	for _, every := range []int{2, 3, 20, 128, 1 << 20, 1 << 30} {
		for _, from := range []int{0, 1, 1000} {
			what := fmt.Sprintf("P8.1: every %d, from %d on", every, from)
			x := made(t, 5, every, added{offset: 5, at: from, size: 1}, added{offset: 6, at: from + every - 1, size: 1})
			entriesAre(t, what+", one byte nearer", x, 5, Entry{5, from})
			run(t, what, x, added{7, from + every, 1, true})
			entriesAre(t, what+", exactly", x, 5, Entry{5, from}, Entry{7, from + every})
			run(t, what, x, added{8, from + 2*every - 1, 1, true}, added{9, from + 2*every, 1, true})
			entriesAre(t, what+", twice", x, 5, Entry{5, from}, Entry{7, from + every}, Entry{9, from + 2*every})
		}
	}
}

func TestFind(t *testing.T) {
	x := made(t, 10, 20, added{offset: 11, at: 3, size: 7}, added{offset: 12, at: 10, size: 12}, added{offset: 15, at: 23, size: 9}, added{offset: 20, at: 200, size: 9}, added{offset: 22, at: 210, size: 9})
	entriesAre(t, "P8.1: Find", x, 10, Entry{11, 3}, Entry{15, 23}, Entry{20, 200})
	for offset := int64(-3); offset < 40; offset++ {
		want := 0
		switch {
		case offset >= 20:
			want = 200
		case offset >= 15:
			want = 23
		case offset >= 11:
			want = 3
		}
		if got := x.Find(offset); got != want {
			t.Errorf("P8.1: Find(%d): %d, want %d", offset, got, want)
		}
	}
	for offset, want := range map[int64]int{math.MinInt64: 0, math.MinInt64 + 1: 0, api.MaxOffset: 200, math.MaxInt64: 200} {
		if got := x.Find(offset); got != want {
			t.Errorf("P8.1: Find(%d): %d, want %d", offset, got, want)
		}
	}
}

// With each number of entries from none on, each of them is found.
func TestFindAmongSo(t *testing.T) {
	for n := range 40 {
		x := New(0, 1)
		for i := range n {
			x.Add(int64(3*i+1), 5*i+2, 5)
		}
		for offset := int64(-1); offset < int64(3*n+5); offset++ {
			want := 0
			for i := range n {
				if int64(3*i+1) <= offset {
					want = 5*i + 2
				}
			}
			if got := x.Find(offset); got != want {
				t.Fatalf("P8.1: of %d entries, Find(%d): %d, want %d", n, offset, got, want)
			}
		}
	}
}

func TestMany(t *testing.T) {
	const n = 1 << 18
	x := New(0, 10)
	for i := range n {
		if !x.Add(int64(i), 5*i, 5) {
			t.Fatalf("P8.1: batch %d: false", i)
		}
	}
	y, ok := Read(0, 10, x.Bytes())
	if !ok || len(x.Entries()) != n/2 || !slices.Equal(x.Entries(), y.Entries()) {
		t.Fatalf("P8.1: of %d entries, read again: %v, %d", len(x.Entries()), ok, len(y.Entries()))
	}
	for i := range n {
		if got, again, want := x.Find(int64(i)), y.Find(int64(i)), 5*(i-i%2); got != want || again != want {
			t.Fatalf("P8.1: Find(%d): %d, and read again %d, want %d", i, got, again, want)
		}
	}
}
