package segment

import (
	"bytes"
	"math/rand/v2"
	"slices"
	"strings"
	"testing"

	"bordereau/api"
	"bordereau/batch"
	"bordereau/index"
)

// fill overwrites all elements of l and its spare capacity.
func fill[T any](l []T, with T) {
	l = l[:cap(l)]
	for i := range l {
		l[i] = with
	}
}

// spare returns p with spare capacity behind it that holds what follows.
func spare(p []byte, behind ...byte) []byte {
	return slices.Concat(p, behind)[: len(p) : len(p)+len(behind)]
}

// sample is a row with batches of all kinds.
func sample(t *testing.T) row {
	t.Helper()
	return written(t, 10, free("a", "b", "c"), data(1, 2, 3, true, "d"), marker(1, 2, api.Commit), greatest(), free("e", "f"))
}

func TestArgumentsStayAsTheyAre(t *testing.T) {
	r := sample(t)
	next := written(t, r.ends[5], free("next"))
	for _, p := range [][]byte{spare(r.p), spare(r.p, next.p...), spare(append(bytes.Clone(r.p), "rubbish"...), next.p...), spare(r.p[:r.at[3]], r.p[r.at[3]:]...)} {
		was := bytes.Clone(p[:cap(p)])
		x := built(t, p, 10, 1)
		before := x.Entries()
		Scan(p, 10)
		From(p, x, 10, 12)
		From(p, nil, 10, 12)
		Cut(p, 10, 12)
		Build(p, 10, 50)
		if !bytes.Equal(p[:cap(p)], was) {
			t.Errorf("R2: the bytes or what follows them were changed: %x, want %x", p[:cap(p)], was)
		}
		if !slices.Equal(x.Entries(), before) {
			t.Errorf("R2: From changed the index: %v, want %v", x.Entries(), before)
		}
	}
	l := slices.Clone(r.l)
	Next(l[:2], 10)
	if !slices.EqualFunc(l, r.l, equal) {
		t.Errorf("R2: Next changed its batches: %v, want %v", l, r.l)
	}
}

func TestSpareCapacityIsNotRead(t *testing.T) {
	r := sample(t)
	for n := range r.at {
		p := spare(r.p[:r.at[n]], r.p[r.at[n]:]...)
		scans(t, "batches ahead of more of them", p, r, n)
		indexes(t, "batches ahead of more of them", p, r, n, 1)
		fromIs(t, "batches ahead of more of them", p, built(t, r.p, 10, 1), r, n, 10)
	}
}

func TestArgumentsAreNotKept(t *testing.T) {
	r := sample(t)
	p := bytes.Clone(r.p)
	x := built(t, p, 10, 1)
	l, _ := Scan(p, 10)
	f, g := From(p, x, 10, 12), From(p, nil, 10, 13)
	want := x.Entries()
	fill(p, '#')
	if !slices.EqualFunc(l, r.l, equal) || !slices.EqualFunc(f, r.l, equal) || !slices.EqualFunc(g, r.l[1:], equal) {
		t.Errorf("R2: results changed with the bytes: %v, %v, %v", l, f, g)
	}
	if !slices.Equal(x.Entries(), want) || len(want) != 5 {
		t.Errorf("R2: the index changed with the bytes: %v, want %v", x.Entries(), want)
	}
	x.Cut(0)
	if !slices.EqualFunc(f, r.l, equal) {
		t.Errorf("R2: a result changed with the index: %v", f)
	}
	y := built(t, r.p, 10, 1)
	if !slices.Equal(y.Entries(), want) || len(x.Entries()) > 0 {
		t.Errorf("R2: two indexes of the same bytes are one: %v, %v", x.Entries(), y.Entries())
	}
}

// results are Scan and From of the same bytes, each twice.
func results(r row, x *index.Index) [][]api.Batch {
	l, _ := Scan(r.p, 10)
	m, _ := Scan(r.p, 10)
	return [][]api.Batch{l, m, From(r.p, x, 10, 0), From(r.p, x, 10, 0), From(r.p, nil, 10, 0), From(r.p, nil, 10, 0)}
}

func TestResultsAreNewMemory(t *testing.T) {
	r := sample(t)
	x := built(t, r.p, 10, 1)
	for i := range results(r, x) {
		all := results(r, x)
		// No list of records reaches into another one of the same result.
		for k := range all[i] {
			fill(all[i][k].Recs, api.Rec{Key: "#"})
			for j := k + 1; j < len(all[i]); j++ {
				if !equal(all[i][j], r.l[j]) {
					t.Errorf("R2: result %d: what is done to batch %d reaches batch %d: %v", i, k, j, all[i][j])
				}
			}
		}
		fill(all[i], api.Batch{Base: -1})
		for j, l := range all {
			if j != i && !slices.EqualFunc(l, r.l, equal) {
				t.Errorf("R2: what is done to result %d reaches result %d: %v", i, j, l)
			}
		}
		scans(t, "bytes of which a result was changed", r.p, r, 5)
		indexes(t, "bytes of which a result was changed", r.p, r, 5, 1)
	}
}

func TestNilAndEmpty(t *testing.T) {
	x := index.New(5, 1)
	for _, p := range [][]byte{nil, {}, make([]byte, 0, 99)} {
		l, at := Scan(p, 5)
		if len(l) > 0 || at != 0 || len(From(p, x, 5, 0)) > 0 || len(From(p, nil, 5, 0)) > 0 || Cut(p, 5, 99) != 0 {
			t.Errorf("R4: %v: not as nil", p)
		}
		if y := built(t, p, 5, 1); len(y.Entries()) > 0 {
			t.Errorf("R4: Build of %v: %v", p, y.Entries())
		}
	}
	for _, l := range [][]api.Batch{nil, {}, make([]api.Batch, 0, 9), sample(t).l[:0]} {
		if got := Next(l, 5); got != 5 {
			t.Errorf("R4, R5: Next of no batches: %d", got)
		}
	}
}

// word returns a text of n bytes at most.
func word(g *rand.Rand, n int) string {
	return strings.Repeat("世x", n/4+1)[:g.IntN(n+1)]
}

// chance returns a valid batch without a base.
func chance(g *rand.Rand) api.Batch {
	producer, epoch := int64(g.IntN(4)), g.IntN(api.MaxEpoch+1)
	if g.IntN(5) == 0 {
		return marker(producer, epoch, api.Commit+g.IntN(2))
	}
	b := free()
	if g.IntN(3) > 0 {
		b = data(producer, epoch, int64(g.IntN(api.MaxSeq)), g.IntN(2) == 0)
	}
	for range 1 + g.IntN(api.MaxRecords) {
		b.Recs = append(b.Recs, api.Rec{Key: word(g, api.MaxText), Value: word(g, api.MaxText)})
	}
	return b
}

// spoil makes the bytes of r from batch i on something that is not that batch.
func spoil(g *rand.Rand, r row, i int) []byte {
	head, rest := r.p[:r.at[i]], bytes.Clone(r.p[r.at[i]:])
	switch g.IntN(6) {
	case 0:
		return slices.Concat(head, rest[:g.IntN(r.at[i+1]-r.at[i])])
	case 1:
		rest[g.IntN(r.at[i+1]-r.at[i])] ^= byte(1 << g.IntN(8))
		return slices.Concat(head, rest)
	case 2:
		return slices.Concat(head, moved(rest, r.ends[i]+1+int64(g.IntN(20))))
	case 3:
		return slices.Concat(head, moved(rest, r.ends[i]-1-int64(g.IntN(20))))
	case 4:
		return slices.Concat(head, []byte{255, byte(g.IntN(256))}, rest)
	}
	return slices.Concat(head, rest[r.at[i+1]-r.at[i]:])
}

func TestLongRows(t *testing.T) {
	for seed := range uint64(300) {
		g := rand.New(rand.NewPCG(seed, 9))
		var l []api.Batch
		for range 2 + g.IntN(20) {
			l = append(l, chance(g))
		}
		r := written(t, []int64{0, 1, 77, 1 << 33}[g.IntN(4)], l...)
		x := built(t, r.p, r.base, 1+g.IntN(3000))
		agree(t, g, r.p, r, x, len(l))
		i := g.IntN(len(l) - 1)
		agree(t, g, spoil(g, r, i), r, x, i)
	}
}

// agree fails the test unless all functions answer what p being the first n batches of r leads to; x is an index of all of r.
func agree(t *testing.T, g *rand.Rand, p []byte, r row, x *index.Index, n int) {
	t.Helper()
	scans(t, "a long row", p, r, n)
	indexes(t, "a long row", p, r, n, 1+g.IntN(4000))
	all := around(r)
	for range 10 {
		offset := all[g.IntN(len(all))]
		asks(t, "a long row", p, r, n, offset)
		fromIs(t, "a long row", p, x, r, n, offset)
	}
}

// What Scan answers of any bytes is framed again, and what is behind it asked.
func FuzzScan(f *testing.F) {
	for _, p := range []string{"", "\x00", "rubbish", strings.Repeat("\x00", 64)} {
		f.Add([]byte(p), int64(0))
	}
	b := free("a", "b")
	p, _ := batch.Bytes(b)
	f.Add(p, int64(0))
	f.Add(slices.Concat(p, moved(p, 2), moved(p, 4), []byte("?")), int64(0))
	f.Add(slices.Concat(p, moved(p, 2), moved(p, 5)), int64(0))
	f.Fuzz(func(t *testing.T, p []byte, base int64) {
		l, at := Scan(p, base)
		next := base
		var q []byte
		for _, b := range l {
			x, why := batch.Bytes(b)
			if why != api.OK || b.Base != next {
				t.Fatalf("P9.1: Scan of %x: %v, behind the end %d", p, b, next)
			}
			q, next = append(q, x...), next+offsets(b)
		}
		if at > len(p) || !bytes.Equal(q, p[:at]) || Next(l, base) != next {
			t.Fatalf("P9.1: Scan of %x: %v, %d, and Next %d", p, l, at, Next(l, base))
		}
		if b, _, why := batch.Read(p[at:]); why == api.OK && b.Base == next {
			t.Fatalf("P9.1: Scan of %x: %d bytes, and behind them %v", p, at, b)
		}
	})
}
