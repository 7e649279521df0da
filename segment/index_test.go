package segment

import (
	"bytes"
	"math"
	"slices"
	"testing"

	"bordereau/api"
	"bordereau/index"
)

// built returns Build of p, and fails the test if there is none.
func built(t *testing.T, p []byte, base int64, every int) *index.Index {
	t.Helper()
	x, ok := Build(p, base, every)
	if !ok || x == nil {
		t.Fatalf("P9.1: Build of %d bytes, from %d, by every %d: %v, %v", len(p), base, every, x, ok)
	}
	return x
}

// entries returns what has an entry of the first n batches of r.
func entries(r row, n, every int) []index.Entry {
	var out []index.Entry
	for i := range n {
		if len(out) == 0 || r.at[i]-out[len(out)-1].At >= every {
			out = append(out, index.Entry{Offset: r.ends[i], At: r.at[i]})
		}
	}
	return out
}

// everies are distances of entries: shorter than each batch, as long as batches of the row or as several of them, and next to those, and the extremes.
func everies(r row) []int {
	out := []int{1, 2, 20, 1000, 1<<30 - 1, 1 << 30}
	for i := range r.l {
		for _, n := range []int{r.at[i+1] - r.at[i], r.at[i+1], r.at[len(r.l)] - r.at[i]} {
			out = append(out, n-1, n, n+1)
		}
	}
	slices.Sort(out)
	return slices.Compact(out)
}

// indexes fails the test unless Build of p answers an index of the first n batches of r.
func indexes(t *testing.T, what string, p []byte, r row, n, every int) {
	t.Helper()
	x, want := built(t, p, r.base, every), entries(r, n, every)
	if got := x.Entries(); !slices.Equal(got, want) {
		t.Fatalf("P9.1: Build of %s by every %d: %v, want %v", what, every, got, want)
	}
	back, ok := index.Read(r.base, every, x.Bytes())
	if !ok || !slices.Equal(back.Entries(), want) {
		t.Fatalf("P9.1: Build of %s by every %d: its Bytes are those of another base: %x", what, every, x.Bytes())
	}
	if n == 0 {
		goesOn(t, what, x, r.base, 0, want, every)
		return
	}
	// All batches were added, the last one too if it has no entry, with all its bytes.
	last := r.ends[n-1]
	for _, c := range []index.Entry{{Offset: last, At: r.at[n]}, {Offset: last - 1, At: r.at[n]}, {Offset: r.ends[n], At: r.at[n] - 1}, {Offset: r.ends[n], At: r.at[n-1]}} {
		if x.Add(c.Offset, c.At, 1) {
			t.Fatalf("P9.1: Build of %s by every %d: Add(%d, %d, 1) behind it: true", what, every, c.Offset, c.At)
		}
	}
	goesOn(t, what, x, r.ends[n], r.at[n], want, every)
}

// goesOn fails the test unless x takes the next batch, with an entry where it has to have one.
func goesOn(t *testing.T, what string, x *index.Index, offset int64, at int, want []index.Entry, every int) {
	t.Helper()
	if !x.Add(offset, at, 1) {
		t.Fatalf("P9.1: Build of %s by every %d: Add(%d, %d, 1) behind it: false", what, every, offset, at)
	}
	if len(want) == 0 || at-want[len(want)-1].At >= every {
		want = append(want, index.Entry{Offset: offset, At: at})
	}
	if got := x.Entries(); !slices.Equal(got, want) {
		t.Fatalf("P9.1: Build of %s by every %d, and one more: %v, want %v", what, every, got, want)
	}
}

func TestBuild(t *testing.T) {
	for what, l := range rows() {
		for _, base := range []int64{0, 5, api.MaxOffset + 1 - tall(l)} {
			r := written(t, base, l...)
			for _, every := range everies(r) {
				indexes(t, what, r.p, r, len(l), every)
				indexes(t, what+", and rubbish", append(bytes.Clone(r.p), "rubbish"...), r, len(l), every)
			}
		}
	}
}

func TestBuildOfAPart(t *testing.T) {
	for what, l := range small() {
		r := written(t, 9, l...)
		for n := range r.p {
			for _, every := range []int{1, 100, 1 << 30} {
				indexes(t, what+", cut off", r.p[:n], r, held(r, n), every)
				p := bytes.Clone(r.p)
				p[n] ^= 32
				indexes(t, what+", with a byte turned", p, r, held(r, n), every)
			}
		}
		for i := range l {
			indexes(t, what+", one of them moved", slices.Concat(r.p[:r.at[i]], moved(r.p[r.at[i]:], r.ends[i]+1)), r, i, 1)
		}
	}
}

// Where batches are gone, an index is as it would be if they never had been: behind a Cut too.
func TestBuildIsOfAllBatches(t *testing.T) {
	r := written(t, 10, rows()["many"]...)
	for _, every := range []int{1, 200, 1000} {
		for n := range r.l {
			x := built(t, r.p, 10, every)
			x.Cut(r.at[n])
			y := built(t, r.p[:r.at[n]], 10, every)
			if !slices.Equal(x.Entries(), y.Entries()) {
				t.Fatalf("P9.1: Build and Cut(%d), by every %d: %v, want %v", r.at[n], every, x.Entries(), y.Entries())
			}
			for _, at := range []int{r.at[n] - 1, r.at[n]} {
				if got, want := x.Add(r.ends[n], at, 1), y.Add(r.ends[n], at, 1); got != want || got != (at == r.at[n]) {
					t.Fatalf("P9.1: Build and Cut(%d), by every %d: Add(%d, %d, 1): %v, want %v", r.at[n], every, r.ends[n], at, got, want)
				}
			}
		}
	}
}

func TestBuildOfNothing(t *testing.T) {
	r := written(t, 5, free("a", "b"), free("c"))
	for what, p := range map[string][]byte{"nil": nil, "an empty byte string": {}, "rubbish": []byte("rubbish"), "batches of another base": moved(r.p, 6)} {
		for _, base := range []int64{0, 1, 5, api.MaxOffset - 1, api.MaxOffset} {
			for _, every := range []int{1, 2, 1<<30 - 1, 1 << 30} {
				indexes(t, what, p, row{base: base, ends: []int64{base}, at: []int{0}}, 0, every)
			}
		}
	}
}

func TestBuildRefuses(t *testing.T) {
	r := written(t, 5, free("a", "b"), free("c"))
	bases := []int64{math.MinInt64, -2, -1, api.MaxOffset + 1, api.MaxOffset + 2, math.MaxInt64}
	everies := []int{math.MinInt, -2, -1, 0, 1<<30 + 1, 1<<30 + 2, math.MaxInt - 1, math.MaxInt}
	refuses := func(p []byte, base int64, every int) {
		if x, ok := Build(p, base, every); ok || x != nil {
			t.Errorf("P9.1, R3: Build of %d bytes, from %d, by every %d: %v, %v, want nil, false", len(p), base, every, x, ok)
		}
	}
	for _, base := range append(bases, 0, 5, api.MaxOffset) {
		for _, every := range everies {
			for _, p := range [][]byte{nil, []byte("rubbish"), r.p, moved(r.p, base)} {
				refuses(p, base, every)
			}
		}
	}
	for _, base := range bases {
		for _, p := range [][]byte{nil, []byte("rubbish"), r.p, moved(r.p, base)} {
			refuses(p, base, 1)
			refuses(p, base, 1<<30)
		}
	}
}

// fromIs fails the test unless From with x answers what it answers with nil, the first n batches of r from those on that end behind offset.
func fromIs(t *testing.T, what string, p []byte, x *index.Index, r row, n int, offset int64) {
	t.Helper()
	k := 0
	for k < n && r.ends[k+1] <= offset {
		k++
	}
	if got := From(p, x, r.base, offset); !slices.EqualFunc(got, r.l[k:n], equal) {
		t.Fatalf("P9.1: From %d of %s, with an index: %d batches, want %d: %v", offset, what, len(got), n-k, got)
	}
}

// around are the offsets of r one by one, some ahead of it and some behind, and the extremes.
func around(r row) []int64 {
	out := []int64{math.MinInt64, -1 << 40, -1, 0, math.MaxInt64 - 1, math.MaxInt64}
	for offset := r.base - 3; offset <= r.ends[len(r.l)]+3; offset++ {
		out = append(out, offset)
	}
	return out
}

func TestFromAndCutAtEachOffset(t *testing.T) {
	for what, l := range rows() {
		for _, base := range []int64{0, 1, 5, 1 << 32, api.MaxOffset + 1 - tall(l)} {
			r := written(t, base, l...)
			for _, offset := range around(r) {
				asks(t, what, r.p, r, len(l), offset)
				asks(t, what+", and rubbish", append(bytes.Clone(r.p), "rubbish"...), r, len(l), offset)
			}
			for _, every := range []int{1, 60, 100, 1000, 1 << 30} {
				x := built(t, r.p, base, every)
				for _, offset := range around(r) {
					fromIs(t, what, r.p, x, r, len(l), offset)
				}
			}
		}
	}
}

// What is asked at a batch's base, at its last record, and at its end.
func TestFromAndCutInABatch(t *testing.T) {
	r := written(t, 10, free("a", "b", "c"), marker(1, 0, api.Commit), free("d", "e"))
	x := built(t, r.p, 10, 1)
	for _, c := range []struct {
		offset int64
		ahead  int
	}{{9, 0}, {10, 0}, {11, 0}, {12, 0}, {13, 1}, {14, 2}, {15, 2}, {16, 3}, {17, 3}} {
		for _, y := range []*index.Index{nil, x} {
			if got := From(r.p, y, 10, c.offset); !slices.EqualFunc(got, r.l[c.ahead:], equal) {
				t.Errorf("P9.1: From %d: %v, want all but %d", c.offset, got, c.ahead)
			}
		}
		if got := Cut(r.p, 10, c.offset); got != r.at[c.ahead] {
			t.Errorf("P9.1: Cut at %d: %d, want %d", c.offset, got, r.at[c.ahead])
		}
	}
}

// others are indexes of which none is one of the row in question, and some that are, though not as Build made them.
func others(t *testing.T, r row) map[string]*index.Index {
	t.Helper()
	out := map[string]*index.Index{
		"an empty one": index.New(r.base, 1), "an empty one of another base": index.New(api.MaxOffset, 1<<30),
		"one of another row": built(t, written(t, 3, free("a"), free("b", "c", "d"), free("e"), marker(1, 1, api.Abort), greatest()).p, 3, 1),
	}
	for what, l := range map[string][]index.Entry{
		"one that lies at no batch":     {{Offset: r.base, At: 1}, {Offset: r.base + 1, At: 2}},
		"one that lies far behind":      {{Offset: r.base, At: math.MaxInt / 2}, {Offset: r.base + 1, At: math.MaxInt - 1}},
		"one that lies behind the last": {{Offset: r.base, At: len(r.p)}},
		"one that skips the first":      {{Offset: r.base, At: r.at[1]}},
		"one of later offsets":          {{Offset: r.base + 1, At: 0}, {Offset: math.MaxInt64, At: r.at[1]}},
	} {
		x := index.New(r.base, 1)
		for _, e := range l {
			if !x.Add(e.Offset, e.At, 1) {
				t.Fatalf("%s: Add of %v: false", what, e)
			}
		}
		out[what] = x
	}
	for _, n := range r.at {
		x := built(t, r.p, r.base, 1)
		x.Cut(n)
		out["one behind a Cut at "+string(rune('a'+n%26))] = x
	}
	whole := built(t, r.p, r.base, 1)
	read, ok := index.Read(r.base, 1, whole.Bytes())
	if !ok {
		t.Fatalf("index.Read of %x: false", whole.Bytes())
	}
	out["one that was read"] = read
	out["one of a greater every"] = built(t, r.p, r.base, 130)
	return out
}

func TestFromWithOtherIndexes(t *testing.T) {
	for what, l := range small() {
		r := written(t, 9, l...)
		for which, x := range others(t, r) {
			for _, offset := range around(r) {
				fromIs(t, what+", "+which, r.p, x, r, len(l), offset)
			}
			for _, n := range []int{0, 1, len(r.p) / 2, len(r.p) - 1} {
				fromIs(t, what+", cut off, "+which, r.p[:n], x, r, held(r, n), 9)
				fromIs(t, what+", cut off, "+which, r.p[:n], x, r, held(r, n), r.ends[len(l)]-1)
			}
		}
	}
}

// An index of whole bytes does not make batches count that stand behind what is no batch any more.
func TestFromOfBrokenBytes(t *testing.T) {
	for what, l := range small() {
		r := written(t, 9, l...)
		x := built(t, r.p, 9, 1)
		for i := range r.p {
			p := bytes.Clone(r.p)
			p[i] ^= 4
			for _, offset := range r.ends {
				fromIs(t, what+", with a byte turned", p, x, r, held(r, i), offset)
				asks(t, what+", with a byte turned", p, r, held(r, i), offset)
			}
		}
		for i := range l {
			p := slices.Concat(r.p[:r.at[i]], moved(r.p[r.at[i]:], r.ends[i]+1))
			for _, offset := range r.ends {
				fromIs(t, what+", one of them moved", p, x, r, i, offset)
			}
		}
	}
}

// With another base, there are no batches, whatever the index tells.
func TestFromOfAnotherBase(t *testing.T) {
	r := written(t, 9, free("a", "b"), free("c"), free("d"))
	x := built(t, r.p, 9, 1)
	for _, base := range []int64{math.MinInt64, -1, 0, 8, 10, 11, 12, api.MaxOffset, math.MaxInt64} {
		for _, offset := range around(r) {
			if got := From(r.p, x, base, offset); len(got) > 0 {
				t.Errorf("P9.1: From %d with base %d, and batches from 9 on: %v", offset, base, got)
			}
		}
	}
	// A part of the file is no file of its own.
	if got := From(r.p[r.at[1]:], x, 9, 12); len(got) > 0 {
		t.Errorf("P9.1: From, of a file without its first batch: %v", got)
	}
}
