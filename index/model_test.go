package index

import (
	"fmt"
	"math"
	"math/big"
	"math/rand/v2"
	"slices"
	"testing"
)

// plain is an index as the list of its batches, each with whether it has an entry.
type plain struct {
	base  int64
	every int
	rows  []row
}

// row is a batch of a plain one. What it lies before is a number without a width.
type row struct {
	offset int64
	at     int
	end    *big.Int
	entry  bool
}

// sum returns a and b together.
func sum(a, b int) *big.Int {
	return new(big.Int).Add(big.NewInt(int64(a)), big.NewInt(int64(b)))
}

// add is Add, by the words of the chapter.
func (m *plain) add(offset int64, at, size int) bool {
	ok := offset >= m.base && at >= 0 && size > 0
	entry := true
	for _, r := range m.rows {
		ok = ok && offset > r.offset && r.end.Cmp(big.NewInt(int64(at))) <= 0
		if r.entry {
			entry = sum(r.at, m.every).Cmp(big.NewInt(int64(at))) <= 0
		}
	}
	if ok {
		m.rows = append(m.rows, row{offset, at, sum(at, size), entry})
	}
	return ok
}

// cut is Cut.
func (m *plain) cut(at int) {
	m.rows = slices.DeleteFunc(m.rows, func(r row) bool { return r.at >= at })
}

// entries is Entries.
func (m *plain) entries() []Entry {
	var out []Entry
	for _, r := range m.rows {
		if r.entry {
			out = append(out, Entry{r.offset, r.at})
		}
	}
	return out
}

// find is Find.
func (m *plain) find(offset int64) int {
	at := 0
	for _, e := range m.entries() {
		if e.Offset <= offset {
			at = e.At
		}
	}
	return at
}

// again leaves of the batches what their entries tell, as if they were written and read.
func (m *plain) again() {
	var rows []row
	for _, r := range m.rows {
		if r.entry {
			rows = append(rows, row{r.offset, r.at, sum(r.at, 1), true})
		}
	}
	m.rows = rows
}

// act is a call, as plain data.
type act struct {
	kind     string
	offset   int64
	at, size int
}

// both makes the call on both, and returns what there is of x behind it, or the fault.
func (c act) both(x *Index, m *plain) (*Index, string) {
	switch c.kind {
	case "cut":
		x.Cut(c.at)
		m.cut(c.at)
	case "again":
		y, ok := Read(m.base, m.every, x.Bytes())
		if !ok {
			return x, "Read of Bytes: false"
		}
		x = y
		m.again()
	default:
		if got, want := x.Add(c.offset, c.at, c.size), m.add(c.offset, c.at, c.size); got != want {
			return x, fmt.Sprintf("Add: %v, want %v", got, want)
		}
	}
	if got, want := x.Entries(), m.entries(); !slices.Equal(got, want) {
		return x, fmt.Sprintf("the entries %v, want %v", got, want)
	}
	if got, want := x.Bytes(), long(numbers(m.base, m.entries())...); !slices.Equal(got, want) {
		return x, fmt.Sprintf("Bytes: %x, want %x", got, want)
	}
	for _, offset := range []int64{m.base - 1, m.base, c.offset - 1, c.offset, c.offset + 1} {
		if got, want := x.Find(offset), m.find(offset); got != want {
			return x, fmt.Sprintf("Find(%d): %d, want %d", offset, got, want)
		}
	}
	return x, ""
}

// agree makes the calls on a new index and on a plain one, and fails the test unless they agree behind each of them.
func agree(t *testing.T, base int64, every int, path []act) {
	t.Helper()
	x, m := New(base, every), &plain{base: base, every: every}
	for i, c := range path {
		var fault string
		if x, fault = c.both(x, m); fault != "" {
			t.Fatalf("P8.1: New(%d, %d), %+v: %s", base, every, path[:i+1], fault)
		}
	}
}

// few are calls of which every short run is made.
func few() []act {
	return []act{
		{"add", 4, 0, 1}, {"add", 5, 0, 1}, {"add", 5, 0, 4}, {"add", 6, 0, 1}, {"add", 6, 1, 2}, {"add", 6, 3, 1}, {"add", 7, 3, 2},
		{"add", 7, 4, 1}, {"add", 8, 4, 3}, {"add", 9, 5, 1}, {"add", 9, 7, 1}, {"add", 9, -1, 1}, {"add", 9, 9, 0},
		{"cut", 0, 0, 0}, {"cut", 0, 1, 0}, {"cut", 0, 3, 0}, {"cut", 0, 4, 0}, {"cut", 0, 9, 0}, {"again", 0, 0, 0},
	}
}

func TestEveryShortRun(t *testing.T) {
	for _, every := range []int{1, 3, 4, 1 << 30} {
		for _, a := range few() {
			for _, b := range few() {
				for _, c := range few() {
					for _, d := range few() {
						agree(t, 5, every, []act{a, b, c, d})
					}
				}
			}
		}
	}
}

// one returns one of l.
func one[T any](r *rand.Rand, l ...T) T {
	return l[r.IntN(len(l))]
}

// chance returns a call, the last batch that was asked for being last.
func chance(r *rand.Rand, last act) act {
	switch r.IntN(20) {
	case 0:
		return act{kind: "cut", at: r.IntN(last.at + last.size + 3)}
	case 1:
		return act{kind: "cut", at: last.at + one(r, -30, -10, -1, 0, 1)}
	case 2:
		return act{kind: "again"}
	}
	return act{
		kind:   "add",
		offset: last.offset + int64(one(r, 1, 1, 1, 1, 1, 2, 5, 0, -1)),
		at:     last.at + last.size + one(r, 0, 0, 0, 0, 0, 0, 1, 7, -1, -last.size),
		size:   one(r, 1, 2, 5, 10, 11, 30, 100, 100, 0, -1),
	}
}

func TestLongRuns(t *testing.T) {
	for seed := range uint64(600) {
		r := rand.New(rand.NewPCG(seed, 9))
		base := one(r, 0, 1, 50, int64(1<<40))
		every := one(r, 1, 2, 5, 10, 20, 40, 200, 1<<30)
		x, m := New(base, every), &plain{base: base, every: every}
		var path []act
		for range 60 {
			last := act{offset: base - 1}
			if n := len(m.rows); n > 0 {
				// The end of a batch of these runs is an int.
				last = act{offset: m.rows[n-1].offset, at: m.rows[n-1].at, size: int(m.rows[n-1].end.Int64()) - m.rows[n-1].at}
			}
			path = append(path, chance(r, last))
			var fault string
			if x, fault = path[len(path)-1].both(x, m); fault != "" {
				t.Fatalf("P8.1: New(%d, %d), %+v: %s", base, every, path, fault)
			}
		}
	}
}

// Numbers next to the ends of their ranges, in all mixtures of two batches.
func TestExtremes(t *testing.T) {
	offsets := []int64{math.MinInt64, -1, 0, 1, 1 << 40, math.MaxInt64 - 1, math.MaxInt64}
	places := []int{math.MinInt, -1, 0, 1, 1 << 30, math.MaxInt - 1, math.MaxInt}
	var l []act
	for _, offset := range offsets {
		for _, at := range places {
			for _, size := range places {
				l = append(l, act{"add", offset, at, size})
			}
		}
	}
	for _, base := range []int64{0, 1 << 40} {
		for _, every := range []int{1, 1 << 30} {
			for _, a := range l {
				if m := (&plain{base: base}); !m.add(a.offset, a.at, a.size) {
					agree(t, base, every, []act{a})
					continue
				}
				for _, b := range l {
					agree(t, base, every, []act{a, b, {kind: "cut", at: b.at}, {kind: "again"}})
				}
			}
		}
	}
}
