package table

import (
	"math"
	"slices"
	"strings"
	"testing"

	"bordereau/api"
	"bordereau/producer"
)

// data returns data of a producer with that many records.
func data(base, id int64, epoch int, seq int64, txn bool, records int) api.Batch {
	return api.Batch{Base: base, Producer: id, Epoch: epoch, Seq: seq, Txn: txn, Recs: make([]api.Rec, records)}
}

// free returns data of no producer.
func free(base int64, records int) api.Batch {
	return data(base, -1, -1, -1, false, records)
}

// marker returns a marker of that kind.
func marker(base, id int64, epoch, kind int) api.Batch {
	return api.Batch{Base: base, Producer: id, Epoch: epoch, Seq: -1, Txn: true, Marker: kind}
}

// state returns the state of a producer.
func state(id int64, epoch int, open int64, l ...[3]int64) api.Producer {
	return api.Producer{ID: id, Epoch: epoch, Last: l, Open: open}
}

// allAre fails the test unless All of x answers want.
func allAre(t *testing.T, x *Table, want ...api.Producer) {
	t.Helper()
	if got := x.All(); !slices.EqualFunc(got, want, producer.Same) {
		t.Errorf("P11.1: All: %v, want %v", got, want)
	}
}

// openIs fails the test unless Open of x answers want, and true unless that is -1.
func openIs(t *testing.T, x *Table, want int64) {
	t.Helper()
	if got, ok := x.Open(); got != want || ok != (want != -1) {
		t.Errorf("P11.1: Open, with %v: %d, %v, want %d", x.All(), got, ok, want)
	}
}

// getIs fails the test unless Get of the ID of want answers it.
func getIs(t *testing.T, x *Table, want api.Producer) {
	t.Helper()
	if got, ok := x.Get(want.ID); !producer.Same(got, want) || !ok {
		t.Errorf("P11.1: Get(%d): %v, %v, want %v", want.ID, got, ok, want)
	}
}

// unknown fails the test unless Get of id answers a zero state and false.
func unknown(t *testing.T, x *Table, id int64) {
	t.Helper()
	if got, ok := x.Get(id); ok || got.ID != 0 || got.Epoch != 0 || got.Open != 0 || len(got.Last) != 0 {
		t.Errorf("P11.1: Get(%d), which is not known: %v, %v", id, got, ok)
	}
}

// checks fails the test unless Check of b answers want and why, and changes nothing.
func checks(t *testing.T, x *Table, b api.Batch, want int64, why api.Errno) {
	t.Helper()
	was := x.All()
	if got, is := x.Check(b); got != want || is != why {
		t.Errorf("P11.1: Check of %v, with %v: %d, %d, want %d, %d", b, was, got, int(is), want, int(why))
	}
	if got := x.All(); !slices.EqualFunc(got, was, producer.Same) {
		t.Errorf("P11.1: Check of %v changed %v to %v", b, was, got)
	}
}

// ends are the least ID, the greatest one, and some between.
func ends() []int64 {
	return []int64{0, 1, 4, 1 << 33, math.MaxInt64 - 1, math.MaxInt64}
}

func TestNew(t *testing.T) {
	x := New()
	allAre(t, x)
	openIs(t, x, -1)
	for _, id := range append(ends(), -1, -2, math.MinInt64) {
		unknown(t, x, id)
	}
	// Nothing of it is shared with what New returned before.
	x.Apply(data(0, 4, 0, 0, true, 1))
	allAre(t, New())
	openIs(t, New(), -1)
}

func TestExamples(t *testing.T) {
	openIs(t, New(), -1)
	allAre(t, Fold(nil))
	allAre(t, Fold([]api.Batch{}))
	checks(t, New(), free(0, 1), -1, api.OK)
}

func TestGet(t *testing.T) {
	for _, id := range ends() {
		x := New()
		x.Apply(data(7, id, 3, 5, true, 2))
		getIs(t, x, state(id, 3, 7, [3]int64{5, 6, 7}))
		for _, other := range append(ends(), -1, -2, math.MinInt64) {
			if other != id {
				unknown(t, x, other)
			}
		}
		allAre(t, x, state(id, 3, 7, [3]int64{5, 6, 7}))
	}
}

func TestGetOfSeveral(t *testing.T) {
	x := New()
	for i, id := range ends() {
		x.Apply(data(int64(10*i), id, i, int64(i), i%2 == 0, i+1))
		x.Apply(free(int64(10*i)+8, 2))
	}
	for i, id := range ends() {
		n := int64(i)
		open := int64(-1)
		if i%2 == 0 {
			open = 10 * n
		}
		getIs(t, x, state(id, i, open, [3]int64{n, 2 * n, 10 * n}))
	}
	unknown(t, x, -1)
	unknown(t, x, 2)
}

// orders are all orders of l.
func orders[T any](l []T) [][]T {
	if len(l) == 0 {
		return [][]T{nil}
	}
	var out [][]T
	for i := range l {
		for _, rest := range orders(slices.Concat(l[:i], l[i+1:])) {
			out = append(out, append(rest, l[i]))
		}
	}
	return out
}

func TestAllIsInAscendingOrder(t *testing.T) {
	var want []api.Producer
	var l []api.Batch
	for i, id := range ends() {
		want = append(want, state(id, 1, int64(i), [3]int64{9, 9, int64(i)}))
		l = append(l, data(int64(i), id, 1, 9, true, 1))
	}
	for _, row := range orders(l) {
		allAre(t, Fold(row), want...)
		openIs(t, Fold(row), 0)
	}
}

// The order in which a map is gone through is another one each time; what is told is not.
func TestManyProducers(t *testing.T) {
	x := New()
	var want []api.Producer
	for i := range int64(500) {
		// 7 has no divisor in common with 500, so each ID comes once.
		id := i * 7 % 500
		x.Apply(data(1000+i, id, 0, 0, id%3 == 0, 1))
	}
	for id := range int64(500) {
		// 143 times 7 is 1 more than two times 500.
		base := 1000 + id*143%500
		open := int64(-1)
		if id%3 == 0 {
			open = base
		}
		want = append(want, state(id, 0, open, [3]int64{0, 0, base}))
	}
	for range 20 {
		allAre(t, x, want...)
		openIs(t, x, 1000)
		allAre(t, x.Copy(), want...)
		openIs(t, x.Copy(), 1000)
	}
}

func TestOpen(t *testing.T) {
	x := New()
	x.Apply(free(0, 1))
	openIs(t, x, -1)
	x.Apply(data(1, 5, 0, 0, false, 1))
	openIs(t, x, -1)
	// Begun in another order than that of the IDs.
	x.Apply(data(2, 5, 0, 1, true, 1))
	openIs(t, x, 2)
	x.Apply(data(3, 9, 0, 0, true, 1))
	x.Apply(data(4, 1, 0, 0, true, 1))
	x.Apply(data(5, 5, 0, 2, true, 1))
	openIs(t, x, 2)
	// Behind the marker that closes the first of them.
	x.Apply(marker(6, 5, 0, api.Commit))
	openIs(t, x, 3)
	x.Apply(data(7, 5, 0, 3, true, 1))
	openIs(t, x, 3)
	x.Apply(marker(8, 1, 0, api.Abort))
	openIs(t, x, 3)
	x.Apply(marker(9, 9, 0, api.Abort))
	openIs(t, x, 7)
	x.Apply(marker(10, 5, 0, api.Commit))
	openIs(t, x, -1)
}

// The bases of the batches do not have to ascend, and it is the least that is told.
func TestOpenIsTheLeast(t *testing.T) {
	bases := []int64{0, 1, 50, api.MaxOffset - 1, api.MaxOffset}
	for _, row := range orders(bases) {
		x := New()
		least := int64(api.MaxOffset)
		for i, base := range row {
			x.Apply(data(base, int64(i), 0, 0, true, 1))
			least = min(least, base)
			openIs(t, x, least)
		}
		for i := range row {
			kind := api.Commit + i%2
			x.Apply(marker(60, int64(i), 0, kind))
			least = -1
			if i+1 < len(row) {
				least = slices.Min(row[i+1:])
			}
			openIs(t, x, least)
		}
	}
}

// A transaction that began at 0 is one, though 0 is also what an unknown producer's state holds.
func TestOpenFromZeroOn(t *testing.T) {
	x := New()
	x.Apply(data(0, 0, 0, 0, true, 1))
	openIs(t, x, 0)
	x.Get(7)
	x.Check(data(5, 7, 0, 0, true, 1))
	openIs(t, x, 0)
	x.Apply(marker(3, 0, 0, api.Commit))
	openIs(t, x, -1)
}

// faulty is a batch that is not valid in one field, and the error of it.
type faulty struct {
	name string
	b    api.Batch
	why  api.Errno
}

// with returns a batch that was changed.
func with(b api.Batch, change func(b *api.Batch)) api.Batch {
	b.Recs = slices.Clone(b.Recs)
	change(&b)
	return b
}

// wrongData are data that are not valid in one field each.
func wrongData() []faulty {
	b, f := data(50, 4, 3, 7, true, 1), free(50, 1)
	long := strings.Repeat("a", api.MaxText+1)
	return []faulty{
		{"Base", with(b, func(b *api.Batch) { b.Base = -1 }), api.ErrOverflow},
		{"Base", with(b, func(b *api.Batch) { b.Base = math.MinInt64 }), api.ErrOverflow},
		{"Base", with(b, func(b *api.Batch) { b.Base = api.MaxOffset + 1 }), api.ErrOverflow},
		{"Base", with(f, func(b *api.Batch) { b.Base = -1 }), api.ErrOverflow},
		{"Producer", with(b, func(b *api.Batch) { b.Producer = -1 }), api.ErrCorrupt},
		{"Producer", with(b, func(b *api.Batch) { b.Producer = -2 }), api.ErrCorrupt},
		{"Producer", with(b, func(b *api.Batch) { b.Producer = math.MinInt64 }), api.ErrCorrupt},
		{"Producer", with(f, func(b *api.Batch) { b.Producer = -2 }), api.ErrCorrupt},
		{"Producer", with(f, func(b *api.Batch) { b.Producer = 4 }), api.ErrCorrupt},
		{"Epoch", with(b, func(b *api.Batch) { b.Epoch = -1 }), api.ErrCorrupt},
		{"Epoch", with(b, func(b *api.Batch) { b.Epoch = api.MaxEpoch + 1 }), api.ErrCorrupt},
		{"Epoch", with(f, func(b *api.Batch) { b.Epoch = 3 }), api.ErrCorrupt},
		{"Seq", with(b, func(b *api.Batch) { b.Seq = -1 }), api.ErrCorrupt},
		{"Seq", with(b, func(b *api.Batch) { b.Seq = api.MaxSeq + 1 }), api.ErrCorrupt},
		{"Seq", with(f, func(b *api.Batch) { b.Seq = 0 }), api.ErrCorrupt},
		{"Txn", with(f, func(b *api.Batch) { b.Txn = true }), api.ErrCorrupt},
		{"Recs", with(b, func(b *api.Batch) { b.Recs = nil }), api.ErrCorrupt},
		{"Recs", with(f, func(b *api.Batch) { b.Recs = nil }), api.ErrCorrupt},
		{"Recs", with(b, func(b *api.Batch) { b.Recs = make([]api.Rec, api.MaxRecords+1) }), api.ErrLarge},
		{"Recs", with(b, func(b *api.Batch) { b.Recs[0].Key = long }), api.ErrLarge},
		{"Recs", with(b, func(b *api.Batch) { b.Recs[0].Value = long }), api.ErrLarge},
	}
}

// wrongMarkers are markers that are not valid in one field each.
func wrongMarkers() []faulty {
	var out []faulty
	for _, kind := range []int{api.Commit, api.Abort} {
		b := marker(50, 4, 3, kind)
		out = append(out,
			faulty{"Base", with(b, func(b *api.Batch) { b.Base = -1 }), api.ErrOverflow},
			faulty{"Base", with(b, func(b *api.Batch) { b.Base = api.MaxOffset + 1 }), api.ErrOverflow},
			faulty{"Producer", with(b, func(b *api.Batch) { b.Producer = -1 }), api.ErrCorrupt},
			faulty{"Producer", with(b, func(b *api.Batch) { b.Producer = -2 }), api.ErrCorrupt},
			faulty{"Epoch", with(b, func(b *api.Batch) { b.Epoch = -1 }), api.ErrCorrupt},
			faulty{"Epoch", with(b, func(b *api.Batch) { b.Epoch = api.MaxEpoch + 1 }), api.ErrCorrupt},
			faulty{"Seq", with(b, func(b *api.Batch) { b.Seq = 0 }), api.ErrCorrupt},
			faulty{"Seq", with(b, func(b *api.Batch) { b.Seq = -2 }), api.ErrCorrupt},
			faulty{"Txn", with(b, func(b *api.Batch) { b.Txn = false }), api.ErrCorrupt},
			faulty{"Marker", with(b, func(b *api.Batch) { b.Marker = -1 }), api.ErrCorrupt},
			faulty{"Marker", with(b, func(b *api.Batch) { b.Marker = 3 }), api.ErrCorrupt},
			faulty{"Marker", with(b, func(b *api.Batch) { b.Marker = 0 }), api.ErrCorrupt},
			faulty{"Recs", with(b, func(b *api.Batch) { b.Recs = make([]api.Rec, 1) }), api.ErrCorrupt},
		)
	}
	return out
}

// wrong are batches that are not valid in one field each, and one that is valid in none.
func wrong() []faulty {
	return slices.Concat(wrongData(), wrongMarkers(), []faulty{{"none", api.Batch{}, api.ErrCorrupt}})
}

// tables are tables that say nothing of producer 4, something, and that it has an open transaction.
func tables() []*Table {
	others := []api.Batch{data(0, 0, 0, 0, true, 1), data(1, 9, 1, 5, false, 2), marker(3, 9, 1, api.Abort)}
	known := append(slices.Clone(others), data(10, 4, 3, 0, false, 7))
	open := append(slices.Clone(others), data(10, 4, 3, 0, true, 7))
	return []*Table{New(), Fold(others), Fold(known), Fold(open)}
}

func TestCheckOfBatchesThatAreNotValid(t *testing.T) {
	for _, x := range tables() {
		for _, f := range wrong() {
			checks(t, x, f.b, -1, f.why)
		}
	}
}

func TestCheckOfDataOfNoProducer(t *testing.T) {
	for _, x := range tables() {
		for _, base := range []int64{0, 50, api.MaxOffset} {
			for _, n := range []int{1, 2, api.MaxRecords} {
				checks(t, x, free(base, n), -1, api.OK)
			}
		}
	}
}

func TestCheckAgainstTheProducerOfTheBatch(t *testing.T) {
	l := tables()
	for _, x := range l[:2] {
		// Not known: any data, no marker.
		for _, seq := range []int64{0, 7, api.MaxSeq} {
			checks(t, x, data(50, 4, 2, seq, false, 1), -1, api.OK)
			checks(t, x, data(50, 4, 5, seq, true, 1), -1, api.OK)
		}
		checks(t, x, marker(50, 4, 3, api.Commit), -1, api.ErrTxn)
		checks(t, x, marker(50, 4, 3, api.Abort), -1, api.ErrTxn)
	}
	for i, x := range l[2:] {
		txn, why, later := i == 1, api.ErrTxn, api.OK
		if txn {
			why, later = api.OK, api.ErrTxn
		}
		checks(t, x, data(50, 4, 3, 7, txn, 2), -1, api.OK)
		checks(t, x, data(50, 4, 3, 0, txn, 7), 10, api.OK)
		checks(t, x, data(50, 4, 3, 0, txn, 6), -1, api.ErrOrder)
		checks(t, x, data(50, 4, 3, 8, txn, 2), -1, api.ErrOrder)
		checks(t, x, data(50, 4, 2, 7, txn, 2), -1, api.ErrFenced)
		checks(t, x, data(50, 4, 4, 0, txn, 2), -1, later)
		checks(t, x, marker(50, 4, 2, api.Abort), -1, api.ErrFenced)
		checks(t, x, marker(50, 4, 3, api.Commit), -1, why)
		checks(t, x, marker(50, 4, 4, api.Abort), -1, why)
		// What is known of another producer makes no difference, and the other way round.
		checks(t, x, data(50, 9, 1, 7, false, 2), -1, api.OK)
		checks(t, x, data(50, 9, 1, 5, false, 2), 1, api.OK)
		checks(t, x, data(50, 9, 0, 7, false, 2), -1, api.ErrFenced)
		checks(t, x, marker(50, 9, 1, api.Abort), -1, api.ErrTxn)
		checks(t, x, data(50, 0, 0, 1, false, 2), -1, api.ErrTxn)
		checks(t, x, data(50, 0, 0, 0, false, 1), 0, api.OK)
		checks(t, x, marker(50, 0, 0, api.Commit), -1, api.OK)
	}
	checks(t, l[3], data(50, 4, 3, 7, false, 2), -1, api.ErrTxn)
}

// Whether a batch is valid is asked first, even where the producer's state refuses it too.
func TestCheckOrderOfErrors(t *testing.T) {
	x := tables()[3]
	fenced := data(50, 4, 2, 99, false, 1)
	checks(t, x, fenced, -1, api.ErrFenced)
	checks(t, x, with(fenced, func(b *api.Batch) { b.Base = -1 }), -1, api.ErrOverflow)
	checks(t, x, with(fenced, func(b *api.Batch) { b.Recs = nil }), -1, api.ErrCorrupt)
	checks(t, x, with(fenced, func(b *api.Batch) { b.Recs = make([]api.Rec, 17) }), -1, api.ErrLarge)
	again := data(50, 4, 3, 0, true, 7)
	checks(t, x, again, 10, api.OK)
	checks(t, x, with(again, func(b *api.Batch) { b.Base = -1 }), -1, api.ErrOverflow)
}

func TestCheckBehindApply(t *testing.T) {
	for _, id := range ends() {
		x := New()
		for i := range int64(9) {
			b := data(3*i, id, 2, 3*i, i%2 == 0, 3)
			if i%2 == 1 {
				b.Txn = true
			}
			checks(t, x, b, -1, api.OK)
			x.Apply(b)
			for k := range i + 1 {
				want, why := 3*k, api.OK
				// Only the latest five are known again.
				if i-k >= 5 {
					want, why = -1, api.ErrOrder
				}
				checks(t, x, data(90, id, 2, 3*k, true, 3), want, why)
			}
		}
	}
}
