package table

import (
	"slices"
	"testing"

	"bordereau/api"
	"bordereau/producer"
)

// fill overwrites all elements of l and its spare capacity.
func fill[T any](l []T, with T) {
	l = l[:cap(l)]
	for i := range l {
		l[i] = with
	}
}

// junk overwrites all that p shares with anything.
func junk(p api.Producer) {
	fill(p.Last, [3]int64{-9, -9, -9})
}

// full are batches that lead to states with one to five elements, with and without a transaction.
func full() []api.Batch {
	var l []api.Batch
	for id := range int64(7) {
		for i := range id {
			l = append(l, data(100*id+i, id, 3, i, id%2 == 0, 1))
		}
	}
	return l
}

// told is what x tells of the producers of these tests, in memory of its own.
func told(x *Table) []api.Producer {
	var out []api.Producer
	for id := range int64(12) {
		if p, ok := x.Get(id); ok {
			p.Last = slices.Clone(p.Last)
			out = append(out, p)
		}
	}
	return out
}

// stays fails the test unless x tells want.
func stays(t *testing.T, what string, x *Table, want []api.Producer) {
	t.Helper()
	if got := told(x); !slices.EqualFunc(got, want, producer.Same) {
		t.Errorf("R2: %s: %v, want %v", what, got, want)
	}
	allAre(t, x, want...)
}

func TestResultsShareNoMemoryWithTheTable(t *testing.T) {
	x := Fold(full())
	want := told(x)
	for _, p := range want {
		got, _ := x.Get(p.ID)
		junk(got)
		stays(t, "behind a change of what Get returned", x, want)
	}
	l := x.All()
	for _, p := range l {
		junk(p)
	}
	fill(l, state(77, 7, 7))
	stays(t, "behind a change of what All returned", x, want)
	// Check asks the states that are kept, which are whole.
	b := full()[len(full())-1]
	checks(t, x, b, b.Base, api.OK)
}

func TestResultsShareNoMemoryWithOneAnother(t *testing.T) {
	x := Fold(full())
	want := told(x)
	one, two := x.All(), x.All()
	for i, p := range one {
		got, _ := x.Get(p.ID)
		// Each list alone, since all of them came of one call.
		junk(p)
		for k, q := range one[i+1:] {
			if !producer.Same(q, want[i+1+k]) {
				t.Errorf("R2: a change of one list that All returned reaches another: %v", q)
			}
		}
		if !producer.Same(two[i], want[i]) || !producer.Same(got, want[i]) {
			t.Errorf("R2: a change of what All returned reaches other results: %v, %v, want %v", two[i], got, want[i])
		}
	}
}

// What was told stays as it is while the table goes on.
func TestResultsStayAsTheyAre(t *testing.T) {
	x := Fold(full())
	want := told(x)
	all := x.All()
	got, _ := x.Get(6)
	for i := range int64(9) {
		for id := range int64(7) {
			x.Apply(data(900+i, id, 3, id+i, true, 1))
		}
	}
	if !slices.EqualFunc(all, want, producer.Same) || !producer.Same(got, want[len(want)-1]) {
		t.Errorf("R2: Apply changed what was told ahead of it: %v, %v, want %v", all, got, want)
	}
}

func TestBatchesAreNotKept(t *testing.T) {
	recs := []api.Rec{{Key: "a", Value: "b"}, {Key: "c"}, {Key: "behind"}}
	l := []api.Batch{{Base: 5, Producer: 4, Epoch: 3, Seq: 7, Txn: true, Recs: recs[:2]}, marker(7, 4, 3, api.Commit)}
	x := New()
	x.Apply(l[0])
	y := Fold(l)
	one, two := []api.Producer{state(4, 3, 5, [3]int64{7, 8, 5})}, []api.Producer{state(4, 3, -1, [3]int64{7, 8, 5})}
	fill(recs, api.Rec{Key: "other"})
	fill(l, api.Batch{})
	stays(t, "behind a change of a batch", x, one)
	stays(t, "behind a change of the batches", y, two)
}

func TestArgumentsStayAsTheyAre(t *testing.T) {
	rows := [][]api.Batch{full(), {free(0, 2), data(2, 4, 3, 7, true, 2), marker(4, 4, 3, api.Abort)}}
	for _, f := range wrong() {
		rows = append(rows, []api.Batch{f.b})
	}
	for _, row := range rows {
		behind := data(60, 4, 3, 9, true, 1)
		for i := range row {
			row[i].Recs = append(slices.Clone(row[i].Recs), api.Rec{Key: "behind"})[:len(row[i].Recs)]
		}
		l := append(slices.Clone(row), behind)[:len(row)]
		for _, b := range l {
			x := tables()[3]
			x.Check(b)
			x.Apply(b)
		}
		Fold(l)
		for i, b := range l {
			want := row[i]
			if b.Base != want.Base || b.Producer != want.Producer || b.Epoch != want.Epoch || b.Seq != want.Seq || b.Txn != want.Txn || b.Marker != want.Marker || len(b.Recs) != len(want.Recs) {
				t.Errorf("R2: a batch was changed: %v, want %v", b, want)
			}
			if full := b.Recs[:len(b.Recs)+1]; full[len(b.Recs)].Key != "behind" {
				t.Errorf("R2: what follows the records of a batch was changed: %v", full)
			}
		}
		if got := l[:len(l)+1][len(l)]; got.Base != 60 || got.Producer != 4 {
			t.Errorf("R2: what follows the batches was changed: %v", got)
		}
	}
}

func TestSpareCapacityIsNotRead(t *testing.T) {
	l := []api.Batch{data(0, 4, 3, 5, false, 1), data(1, 4, 3, 6, true, 1), data(2, 9, 0, 0, true, 1)}
	allAre(t, Fold(l[:0]))
	allAre(t, Fold(l[:1]), state(4, 3, -1, [3]int64{5, 5, 0}))
	x := New()
	b := data(0, 4, 3, 5, false, 3)
	b.Recs = b.Recs[:1]
	x.Apply(b)
	allAre(t, x, state(4, 3, -1, [3]int64{5, 5, 0}))
	b.Recs = b.Recs[:0]
	checks(t, x, b, -1, api.ErrCorrupt)
	applied(t, x, b, nothing)
}

// A marker has no records, nil or not.
func TestNilAndEmpty(t *testing.T) {
	for _, recs := range [][]api.Rec{nil, {}, make([]api.Rec, 0, 5)} {
		x := Fold([]api.Batch{data(0, 4, 3, 5, true, 1)})
		b := marker(1, 4, 3, api.Abort)
		b.Recs = recs
		checks(t, x, b, -1, api.OK)
		applied(t, x, b, api.Dropped{Producer: 4, First: 0, Last: 1})
		b = data(2, 4, 3, 6, false, 1)
		b.Recs = recs
		checks(t, x, b, -1, api.ErrCorrupt)
		applied(t, x, b, nothing)
		allAre(t, x, state(4, 3, -1, [3]int64{5, 5, 0}))
	}
}

func TestCopy(t *testing.T) {
	for _, l := range [][]api.Batch{nil, full(), full()[:3]} {
		x := Fold(l)
		y := x.Copy()
		stays(t, "Copy", y, told(x))
		want, _ := x.Open()
		openIs(t, y, want)
		// New memory all through, whichever of the two is asked.
		for _, z := range []*Table{x, y, x.Copy(), y.Copy()} {
			for _, p := range z.All() {
				junk(p)
			}
			stays(t, "Copy", x, told(Fold(l)))
			stays(t, "Copy", y, told(Fold(l)))
		}
	}
}

// A copy and the table that it was made of go on for themselves.
func TestCopyGoesOnForItself(t *testing.T) {
	begun := []api.Batch{data(0, 4, 3, 5, true, 1), data(1, 9, 0, 0, true, 1), data(2, 5, 1, 0, false, 1)}
	x := Fold(begun)
	was := told(x)
	y := x.Copy()
	applied(t, y, marker(3, 4, 3, api.Abort), api.Dropped{Producer: 4, First: 0, Last: 3})
	y.Apply(data(4, 100, 0, 0, false, 1))
	y.Apply(data(5, 5, 1, 1, true, 1))
	allAre(t, x, was...)
	openIs(t, x, 0)
	openIs(t, y, 1)
	unknown(t, x, 100)
	checks(t, x, marker(6, 4, 3, api.Abort), -1, api.OK)
	checks(t, y, marker(6, 4, 3, api.Abort), -1, api.ErrTxn)

	is := y.All()
	applied(t, x, marker(7, 9, 0, api.Abort), api.Dropped{Producer: 9, First: 1, Last: 7})
	applied(t, x, marker(8, 4, 3, api.Commit), nothing)
	x.Apply(data(9, 101, 0, 0, true, 1))
	allAre(t, y, is...)
	openIs(t, y, 1)
	openIs(t, x, 9)
	unknown(t, y, 101)

	// A copy of the copy, behind both.
	z := y.Copy()
	y.Apply(marker(10, 9, 0, api.Commit))
	allAre(t, z, is...)
	openIs(t, z, 1)
	openIs(t, y, 5)
}

// The table and its copy append to the same state, which may have spare capacity.
func TestCopiesAppendToTheSameState(t *testing.T) {
	x := New()
	for i := range int64(8) {
		y, z := x.Copy(), x.Copy()
		y.Apply(data(100+i, 4, 3, i, true, 3))
		x.Apply(data(10+i, 4, 3, i, false, 1))
		z.Apply(data(200+i, 4, 3, i, false, 2))
		for _, c := range []struct {
			x    *Table
			want [3]int64
		}{{y, [3]int64{i, i + 2, 100 + i}}, {x, [3]int64{i, i, 10 + i}}, {z, [3]int64{i, i + 1, 200 + i}}} {
			p, _ := c.x.Get(4)
			if n := len(p.Last); n != int(min(i+1, 5)) || p.Last[n-1] != c.want {
				t.Errorf("R2: a copy changed another one: %v, want %v last", p, c.want)
			}
		}
	}
}
