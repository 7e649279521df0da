package fold_test

import (
	"math/rand/v2"
	"slices"
	"testing"

	"bordereau/api"
	"bordereau/batch"
	"bordereau/fold"
	"bordereau/table"
)

// model is a row of batches offset by offset, each with what holds there at the end.
type model struct {
	start  int64
	places []place
	txns   []txn
}

// place is an offset: data has a record, of the transaction with the index txn, or of none (-1).
type place struct {
	data bool
	got  api.Got
	txn  int
}

// txn is a transaction: the marker that ended it, 0 if it is open.
type txn struct {
	id, first, last int64
	marker          int
}

// modelOf reads valid batches, one behind the other.
func modelOf(start int64, l []api.Batch) model {
	m := model{start: start}
	for _, b := range l {
		if b.Marker != 0 {
			if i := m.open(b.Producer); i >= 0 {
				m.txns[i].last, m.txns[i].marker = m.end(), b.Marker
			}
			m.places = append(m.places, place{txn: -1})
			continue
		}
		if b.Txn && m.open(b.Producer) < 0 {
			m.txns = append(m.txns, txn{id: b.Producer, first: m.end()})
		}
		i := m.open(b.Producer)
		for _, r := range b.Recs {
			m.places = append(m.places, place{data: true, got: api.Got{Offset: m.end(), Producer: b.Producer, Rec: r}, txn: i})
		}
	}
	return m
}

// open returns the index of the producer's transaction that is open, or -1.
func (m model) open(id int64) int {
	return slices.IndexFunc(m.txns, func(x txn) bool { return x.id == id && x.marker == 0 })
}

func (m model) end() int64 {
	return m.start + int64(len(m.places))
}

func (m model) stable() int64 {
	out := m.end()
	for _, x := range m.txns {
		if x.marker == 0 {
			out = min(out, x.first)
		}
	}
	return out
}

// records returns at most n records from the offset from on, and where it stopped.
func (m model) records(from, to, n int64) ([]api.Got, int64) {
	var out []api.Got
	for at := from; at < to; at++ {
		if p := m.places[at-m.start]; p.data {
			if out = append(out, p.got); int64(len(out)) == n {
				return out, at + 1
			}
		}
	}
	return out, max(from, to)
}

// aborted returns the transactions that have one of these offsets, in the order of their markers.
func (m model) aborted(from, to int64) []api.Dropped {
	var out []api.Dropped
	for _, x := range m.txns {
		hit := false
		for at := from; at < to; at++ {
			hit = hit || x.first <= at && at <= x.last
		}
		if hit && x.marker == api.Abort {
			out = append(out, api.Dropped{Producer: x.id, First: x.first, Last: x.last})
		}
	}
	slices.SortFunc(out, func(a, b api.Dropped) int { return int(a.Last - b.Last) })
	return out
}

// fetch answers where no error applies.
func (m model) fetch(from, n int64, only bool) api.Fetch {
	out := api.Fetch{Stable: m.stable()}
	if !only {
		out.Recs, out.Next = m.records(from, m.end(), n)
		return out
	}
	out.Recs, out.Next = m.records(from, m.stable(), n)
	out.Aborted = m.aborted(from, out.Next)
	return out
}

func (m model) committed() []api.Got {
	var out []api.Got
	for at := m.start; at < m.stable(); at++ {
		p := m.places[at-m.start]
		if p.data && (p.txn == -1 || m.txns[p.txn].marker == api.Commit) {
			out = append(out, p.got)
		}
	}
	return out
}

func sameFetch(a, b api.Fetch) bool {
	return slices.Equal(a.Recs, b.Recs) && slices.Equal(a.Aborted, b.Aborted) && a.Next == b.Next && a.Stable == b.Stable
}

// fetchIs fails the test unless Fetch answers as the model does.
func fetchIs(t *testing.T, m model, l []api.Batch, from, n int64, only bool) api.Fetch {
	t.Helper()
	got, why := fold.Fetch(m.start, l, from, n, only)
	want := m.fetch(from, n, only)
	if why != api.OK || !sameFetch(got, want) {
		t.Errorf("P14.2: Fetch(%d, %v, %d, %d, %v): %v, %d, want %v, 0", m.start, l, from, n, only, got, int(why), want)
	}
	return got
}

// delivered returns what is delivered of successive fetches with only, n records each, and fails the test unless they come to an end at Stable.
func delivered(t *testing.T, start int64, l []api.Batch, n int64) []api.Got {
	t.Helper()
	var out []api.Got
	at := start
	for {
		f, why := fold.Fetch(start, l, at, n, true)
		if why != api.OK || f.Next < at || int64(len(f.Recs)) > n {
			t.Errorf("P14.3: Fetch(%d, %v, %d, %d, true): %v, %d", start, l, at, n, f, int(why))
			return nil
		}
		out = append(out, fold.Deliver(f)...)
		if f.Next == at {
			break
		}
		at = f.Next
	}
	if at != fold.Stable(start, l) {
		t.Errorf("P14.3: fetches of %v by %d end at %d, want %d", l, n, at, fold.Stable(start, l))
	}
	return out
}

// deliveredIsCommitted fails the test unless successive fetches deliver the Committed records, each once and in ascending order.
func deliveredIsCommitted(t *testing.T, start int64, l []api.Batch, numbers ...int64) {
	t.Helper()
	want := fold.Committed(start, l)
	for i, g := range want {
		if i > 0 && want[i-1].Offset >= g.Offset || g.Offset >= fold.Stable(start, l) {
			t.Errorf("W2: Committed of %v: %v", l, want)
		}
	}
	for _, n := range numbers {
		if got := delivered(t, start, l, n); !slices.Equal(got, want) {
			t.Errorf("P14.3: fetches of %v by %d deliver %v, want %v", l, n, got, want)
		}
	}
}

// agree fails the test unless all that is told of the batches is what the model tells.
func agree(t *testing.T, start int64, l []api.Batch, numbers ...int64) {
	t.Helper()
	m := modelOf(start, l)
	ends(t, start, l, m.end(), m.stable())
	if got, want := fold.Committed(start, l), m.committed(); !slices.Equal(got, want) {
		t.Errorf("P14.2: Committed(%d, %v): %v, want %v", start, l, got, want)
	}
	for from := start; from <= m.end(); from++ {
		got := fold.Records(start, l, from, m.end())
		if want, _ := m.records(from, m.end(), most); !slices.Equal(got, want) {
			t.Errorf("P14.1: Records(%d, %v, %d, %d): %v, want %v", start, l, from, m.end(), got, want)
		}
		for _, n := range numbers {
			fetchIs(t, m, l, from, n, false)
			fetchIs(t, m, l, from, n, true)
		}
	}
	deliveredIsCommitted(t, start, l, numbers...)
}

// few are batches of which every short row is made, also such as no partition takes: markers that end nothing, and data within a transaction that does not say so.
func few() []api.Batch {
	return []api.Batch{free(2), data(1, 1), begin(1, 2), commit(1), abort(1), begin(2, 1), commit(2), in(1, abort(2))}
}

func TestEveryShortRow(t *testing.T) {
	rows := [][]api.Batch{nil}
	for range 4 {
		var longer [][]api.Batch
		for _, l := range rows {
			for _, b := range few() {
				longer = append(longer, append(slices.Clone(l), b))
			}
		}
		for i, l := range longer {
			start := int64(i % 3)
			agree(t, start, row(start, l...), 1, 2, 3, api.MaxFetch)
		}
		rows = longer
	}
}

// history returns batches of a few producers, one behind the other; if strict is true only such as a partition takes.
func history(r *rand.Rand, start int64, strict bool) []api.Batch {
	var out []api.Batch
	x := table.New()
	for range r.IntN(60) {
		b := some(r)
		b.Base = start
		p, _ := x.Get(b.Producer)
		if n := len(p.Last); b.Marker == 0 && b.Producer >= 0 && n > 0 && b.Epoch == p.Epoch {
			b.Seq = (p.Last[n-1][1] + 1) % (api.MaxSeq + 1)
		}
		for i := range b.Recs {
			b.Recs[i] = rec(start+int64(i), b.Producer)
		}
		if at, why := x.Check(b); strict && (at != -1 || why != api.OK) {
			continue
		}
		x.Apply(b)
		out = append(out, b)
		start += int64(batch.Count(b))
	}
	return out
}

// some returns a valid batch of no producer or of one of three.
func some(r *rand.Rand) api.Batch {
	id, epoch := r.Int64N(3), r.IntN(6)/5
	switch r.IntN(6) {
	case 0:
		b := free(1 + r.IntN(3))
		b.Seq = -1
		return b
	case 1:
		return in(epoch, commit(id))
	case 2:
		return in(epoch, abort(id))
	case 3:
		return in(epoch, data(id, 1+r.IntN(3)))
	default:
		return in(epoch, begin(id, 1+r.IntN(3)))
	}
}

func TestHistories(t *testing.T) {
	for seed := range uint64(300) {
		r := rand.New(rand.NewPCG(seed, 14))
		start := r.Int64N(9)
		l := history(r, start, seed%2 == 0)
		agree(t, start, l, 1, 1+r.Int64N(9), api.MaxFetch)
	}
}

// Each few numbers deliver the same records (W2).
func TestDeliveredByEachNumber(t *testing.T) {
	for seed := range uint64(30) {
		r := rand.New(rand.NewPCG(seed, 2))
		start := r.Int64N(1 << 39)
		l := history(r, start, true)
		for n := int64(1); n <= api.MaxFetch; n++ {
			deliveredIsCommitted(t, start, l, n)
		}
	}
	l := mixed()
	for n := range l {
		deliveredIsCommitted(t, 5, l[:n+1], 1, 2, 3, 4, 5, 6, 7, 12, 13, 14, api.MaxFetch)
	}
	for _, l := range [][]api.Batch{nil, row(5, free(3)), row(5, begin(1, 3)), row(5, begin(1, 3), abort(1)), row(5, begin(1, 3), commit(1))} {
		deliveredIsCommitted(t, 5, l, 1, 2, 3, 4, api.MaxFetch)
	}
}

// A reader that fetches while batches are appended gets the same records: what was stable stays as it is.
func TestDeliveredWhileItGrows(t *testing.T) {
	for seed := range uint64(100) {
		r := rand.New(rand.NewPCG(seed, 3))
		l := history(r, 7, true)
		var got []api.Got
		at, n := int64(7), 1+r.Int64N(5)
		for k := range len(l) + 1 {
			for range r.IntN(3) {
				f, _ := fold.Fetch(7, l[:k], at, n, true)
				got, at = append(got, fold.Deliver(f)...), f.Next
			}
			if want := fold.Committed(7, l[:k]); len(got) > len(want) || !slices.Equal(got, want[:len(got)]) {
				t.Errorf("W2: of %d batches of %v: %v, want the first of %v", k, l, got, want)
			}
		}
	}
}
