package table

import (
	"slices"
	"testing"

	"bordereau/api"
)

// step is a batch that is applied, what that returns, and all states behind it.
type step struct {
	b    api.Batch
	want api.Dropped
	all  []api.Producer
}

// nothing stands for a zero value and false, since a transaction may have zeros alone.
var nothing = api.Dropped{Producer: -1}

// applied fails the test unless Apply of b answers want and true; a zero value and false for nothing.
func applied(t *testing.T, x *Table, b api.Batch, want api.Dropped) {
	t.Helper()
	was, is := x.All(), true
	if want == nothing {
		want, is = api.Dropped{}, false
	}
	if got, ok := x.Apply(b); got != want || ok != is {
		t.Errorf("P11.1: Apply of %v, with %v: %v, %v, want %v, %v", b, was, got, ok, want, is)
	}
}

// runs applies the batches one behind the other to a new table, and folds them too.
func runs(t *testing.T, l []step) {
	t.Helper()
	x := New()
	var had []api.Batch
	for _, s := range l {
		applied(t, x, s.b, s.want)
		allAre(t, x, s.all...)
		had = append(had, s.b)
		allAre(t, Fold(had), s.all...)
		least := int64(-1)
		for _, p := range s.all {
			getIs(t, x, p)
			if p.Open >= 0 && (least < 0 || p.Open < least) {
				least = p.Open
			}
		}
		openIs(t, x, least)
		openIs(t, Fold(had), least)
	}
}

// states returns a list of them.
func states(l ...api.Producer) []api.Producer { return l }

func TestApplyOfOneProducer(t *testing.T) {
	runs(t, []step{
		{data(0, 4, 3, 7, false, 2), nothing, states(state(4, 3, -1, [3]int64{7, 8, 0}))},
		{data(2, 4, 3, 9, true, 1), nothing, states(state(4, 3, 2, [3]int64{7, 8, 0}, [3]int64{9, 9, 2}))},
		{data(3, 4, 3, 10, true, 1), nothing, states(state(4, 3, 2, [3]int64{7, 8, 0}, [3]int64{9, 9, 2}, [3]int64{10, 10, 3}))},
		{marker(4, 4, 3, api.Commit), nothing, states(state(4, 3, -1, [3]int64{7, 8, 0}, [3]int64{9, 9, 2}, [3]int64{10, 10, 3}))},
		{data(5, 4, 4, 0, true, 16), nothing, states(state(4, 4, 5, [3]int64{0, 15, 5}))},
		{marker(21, 4, 4, api.Abort), api.Dropped{Producer: 4, First: 5, Last: 21}, states(state(4, 4, -1, [3]int64{0, 15, 5}))},
		{data(22, 4, 4, api.MaxSeq, true, 2), nothing, states(state(4, 4, 22, [3]int64{0, 15, 5}, [3]int64{api.MaxSeq, 0, 22}))},
		{marker(24, 4, 6, api.Abort), api.Dropped{Producer: 4, First: 22, Last: 24}, states(state(4, 6, -1))},
	})
}

func TestApplyOfSeveralProducers(t *testing.T) {
	nine, four, zero := [3]int64{7, 7, 3}, [3]int64{0, 1, 4}, [3]int64{5, 5, 6}
	runs(t, []step{
		{free(0, 3), nothing, nil},
		{data(3, 9, 1, 7, true, 1), nothing, states(state(9, 1, 3, nine))},
		{data(4, 4, 0, 0, true, 2), nothing, states(state(4, 0, 4, four), state(9, 1, 3, nine))},
		{data(6, 0, 2, 5, false, 1), nothing, states(state(0, 2, -1, zero), state(4, 0, 4, four), state(9, 1, 3, nine))},
		{free(7, 1), nothing, states(state(0, 2, -1, zero), state(4, 0, 4, four), state(9, 1, 3, nine))},
		{marker(8, 9, 1, api.Abort), api.Dropped{Producer: 9, First: 3, Last: 8}, states(state(0, 2, -1, zero), state(4, 0, 4, four), state(9, 1, -1, nine))},
		{data(9, 0, 2, 6, true, 1), nothing, states(state(0, 2, 9, zero, [3]int64{6, 6, 9}), state(4, 0, 4, four), state(9, 1, -1, nine))},
		{marker(10, 4, 0, api.Commit), nothing, states(state(0, 2, 9, zero, [3]int64{6, 6, 9}), state(4, 0, -1, four), state(9, 1, -1, nine))},
		{marker(11, 0, 3, api.Abort), api.Dropped{Producer: 0, First: 9, Last: 11}, states(state(0, 3, -1), state(4, 0, -1, four), state(9, 1, -1, nine))},
	})
}

// Markers of producers without a transaction are refused by Check, and make them known all the same.
func TestApplyOfMarkers(t *testing.T) {
	for _, id := range ends() {
		for _, base := range []int64{0, 50, api.MaxOffset} {
			for _, kind := range []int{api.Commit, api.Abort} {
				// Of a producer that is not known.
				x := New()
				applied(t, x, marker(base, id, 3, kind), nothing)
				allAre(t, x, state(id, 3, -1))
				openIs(t, x, -1)
				// Of one without an open transaction.
				applied(t, x, marker(base, id, 3, kind), nothing)
				applied(t, x, data(9, id, 3, 5, false, 1), nothing)
				applied(t, x, marker(base, id, 3, kind), nothing)
				allAre(t, x, state(id, 3, -1, [3]int64{5, 5, 9}))
				// Of one with an open transaction, which is closed already when the marker comes again.
				for _, first := range []int64{0, 1, 7, api.MaxOffset} {
					want := nothing
					if kind == api.Abort {
						want = api.Dropped{Producer: id, First: first, Last: base}
					}
					x = Fold([]api.Batch{data(first, id, 3, 5, true, 1), data(40, id, 3, 6, true, 1)})
					applied(t, x, marker(base, id, 3, kind), want)
					applied(t, x, marker(base, id, 3, kind), nothing)
					allAre(t, x, state(id, 3, -1, [3]int64{5, 5, first}, [3]int64{6, 6, 40}))
				}
			}
		}
	}
}

// The transactions of other producers stay open, and are not told.
func TestApplyOfMarkersAmongSeveral(t *testing.T) {
	for _, kind := range []int{api.Commit, api.Abort} {
		for _, closed := range ends() {
			x := New()
			for i, id := range ends() {
				x.Apply(data(int64(10+i), id, 3, 5, true, 1))
			}
			at := int64(slices.Index(ends(), closed))
			want := nothing
			if kind == api.Abort {
				want = api.Dropped{Producer: closed, First: 10 + at, Last: 50}
			}
			applied(t, x, marker(50, 77, 3, kind), nothing)
			applied(t, x, marker(50, closed, 3, kind), want)
			for i, id := range ends() {
				open := int64(10 + i)
				if id == closed {
					open = -1
				}
				getIs(t, x, state(id, 3, open, [3]int64{5, 5, int64(10 + i)}))
			}
		}
	}
}

// Apply asks nothing of what Check does but whether the batch is valid.
func TestApplyOfBatchesThatCheckRefuses(t *testing.T) {
	had, low, more := [3]int64{5, 6, 10}, [3]int64{50, 50, 20}, [3]int64{0, 0, 21}
	x := Fold([]api.Batch{data(10, 4, 3, 5, true, 2)})
	for _, c := range []struct {
		b    api.Batch
		why  api.Errno
		want api.Dropped
		p    api.Producer
	}{
		{data(20, 4, 2, 50, false, 1), api.ErrFenced, nothing, state(4, 2, 10, low)},
		{data(20, 4, 3, 50, true, 1), api.ErrOrder, nothing, state(4, 3, 10, had, low)},
		{data(20, 4, 3, 7, false, 1), api.ErrTxn, nothing, state(4, 3, 10, had, [3]int64{7, 7, 20})},
		{data(21, 4, 4, 0, true, 1), api.ErrTxn, nothing, state(4, 4, 10, more)},
		{marker(22, 4, 2, api.Commit), api.ErrFenced, nothing, state(4, 2, -1)},
		{marker(22, 4, 0, api.Abort), api.ErrFenced, api.Dropped{Producer: 4, First: 10, Last: 22}, state(4, 0, -1)},
		// Also with a base ahead of where the transaction began.
		{marker(9, 4, 2, api.Abort), api.ErrFenced, api.Dropped{Producer: 4, First: 10, Last: 9}, state(4, 2, -1)},
	} {
		y := x.Copy()
		checks(t, y, c.b, -1, c.why)
		applied(t, y, c.b, c.want)
		allAre(t, y, c.p)
	}
	x.Apply(marker(12, 4, 3, api.Commit))
	checks(t, x, data(20, 4, 4, 50, false, 1), -1, api.ErrOrder)
	applied(t, x, data(20, 4, 4, 50, false, 1), nothing)
	allAre(t, x, state(4, 4, -1, low))
	checks(t, x, marker(21, 4, 4, api.Abort), -1, api.ErrTxn)
	applied(t, x, marker(21, 4, 4, api.Abort), nothing)
	allAre(t, x, state(4, 4, -1, low))
}

// A duplicate is appended too, if it is asked for.
func TestApplyOfTheSameBatchTwice(t *testing.T) {
	for _, txn := range []bool{false, true} {
		open := int64(-1)
		if txn {
			open = 10
		}
		x := New()
		var l [][3]int64
		for n := range 8 {
			b := data(10, 4, 3, 5, txn, 2)
			applied(t, x, b, nothing)
			checks(t, x, b, 10, api.OK)
			l = append(l, [3]int64{5, 6, 10})
			allAre(t, x, state(4, 3, open, l[:min(n+1, 5)]...))
			openIs(t, x, open)
		}
	}
}

func TestApplyOfDataOfNoProducer(t *testing.T) {
	for _, x := range tables() {
		was := x.All()
		open, _ := x.Open()
		for _, base := range []int64{0, 50, api.MaxOffset} {
			applied(t, x, free(base, 1), nothing)
			applied(t, x, free(base, api.MaxRecords), nothing)
		}
		allAre(t, x, was...)
		openIs(t, x, open)
		unknown(t, x, -1)
	}
}

func TestApplyOfBatchesThatAreNotValid(t *testing.T) {
	for _, x := range tables() {
		was := x.All()
		open, _ := x.Open()
		for _, f := range wrong() {
			applied(t, x, f.b, nothing)
			if t.Failed() {
				t.Fatalf("P11.1: a batch that is wrong in its %s", f.name)
			}
			allAre(t, x, was...)
			openIs(t, x, open)
			unknown(t, x, -1)
			unknown(t, x, -2)
		}
	}
}

func TestFold(t *testing.T) {
	var l []api.Batch
	x := New()
	for i := range int64(40) {
		b := data(10*i, i%3, 1, i/3, i%2 == 0, 1)
		switch {
		case i%7 == 3:
			b = free(10*i, 2)
		case i%5 == 4:
			b = marker(10*i, i%3, 1, api.Commit+int(i%2))
		case i%11 == 8:
			b.Recs = nil
		}
		l = append(l, b)
		x.Apply(b)
		got := Fold(l)
		allAre(t, got, x.All()...)
		open, _ := x.Open()
		openIs(t, got, open)
	}
}

// A folded table goes on as one to which the batches were applied, and each Fold is a table of its own.
func TestFoldIsANewTable(t *testing.T) {
	l := []api.Batch{data(0, 4, 3, 5, true, 1)}
	one, two := Fold(l), Fold(l)
	applied(t, one, marker(1, 4, 3, api.Abort), api.Dropped{Producer: 4, First: 0, Last: 1})
	one.Apply(data(2, 5, 0, 0, false, 1))
	allAre(t, two, state(4, 3, 0, [3]int64{5, 5, 0}))
	allAre(t, Fold(l), state(4, 3, 0, [3]int64{5, 5, 0}))
	applied(t, two, data(1, 4, 3, 6, false, 1), nothing)
	allAre(t, one, state(4, 3, -1, [3]int64{5, 5, 0}), state(5, 0, -1, [3]int64{0, 0, 2}))
}
