package table

import (
	"math"
	"math/rand/v2"
	"slices"
	"testing"

	"bordereau/api"
	"bordereau/producer"
)

// plain is a table as the list of the valid batches of producers that were applied to it.
type plain []api.Batch

// of returns the batches of one producer.
func (m plain) of(id int64) plain {
	return slices.DeleteFunc(slices.Clone(m), func(b api.Batch) bool { return b.Producer != id })
}

// ids returns the IDs of all producers in ascending order.
func (m plain) ids() []int64 {
	var out []int64
	for _, b := range m {
		out = append(out, b.Producer)
	}
	slices.Sort(out)
	return slices.Compact(out)
}

// begun returns where the transaction of a producer began that has no marker yet, or -1.
func (m plain) begun(id int64) int64 {
	first := int64(-1)
	for _, b := range m.of(id) {
		if b.Marker != 0 {
			first = -1
		} else if b.Txn && first == -1 {
			first = b.Base
		}
	}
	return first
}

// state returns what is known of a producer, which is the last epoch and the latest data of its last run of batches.
func (m plain) state(id int64) api.Producer {
	l := m.of(id)
	p := api.Producer{ID: id, Epoch: l[len(l)-1].Epoch, Open: m.begun(id)}
	for i := len(l) - 1; i >= 0 && l[i].Epoch == p.Epoch; i-- {
		if l[i].Marker == 0 && len(p.Last) < 5 {
			last := (l[i].Seq + int64(len(l[i].Recs)) - 1) % (api.MaxSeq + 1)
			p.Last = append(p.Last, [3]int64{l[i].Seq, last, l[i].Base})
		}
	}
	slices.Reverse(p.Last)
	return p
}

// open returns the least offset at which a transaction began that has no marker yet, or -1.
func (m plain) open() int64 {
	least := int64(-1)
	for _, id := range m.ids() {
		if at := m.begun(id); at >= 0 && (least == -1 || at < least) {
			least = at
		}
	}
	return least
}

// all returns all states.
func (m plain) all() []api.Producer {
	var out []api.Producer
	for _, id := range m.ids() {
		out = append(out, m.state(id))
	}
	return out
}

// drops returns the transaction that b, which was not appended yet, aborts, or nothing.
func (m plain) drops(b api.Batch) api.Dropped {
	at := m.begun(b.Producer)
	if b.Marker != api.Abort || at < 0 {
		return nothing
	}
	return api.Dropped{Producer: b.Producer, First: at, Last: b.Base}
}

// check returns what Check of b, which is valid and of a producer, has to answer.
func (m plain) check(b api.Batch) (int64, api.Errno) {
	if len(m.of(b.Producer)) == 0 {
		return producer.Check(api.Producer{}, false, b)
	}
	return producer.Check(m.state(b.Producer), true, b)
}

// try is a batch, and the error of it, which is OK if it is valid.
type try struct {
	b   api.Batch
	why api.Errno
}

// both applies the batch to x and to m, fails the test unless they agree, and returns m behind it.
func (c try) both(t *testing.T, x *Table, m plain) plain {
	t.Helper()
	switch {
	case c.why != api.OK:
		checks(t, x, c.b, -1, c.why)
		applied(t, x, c.b, nothing)
	case c.b.Producer == -1:
		checks(t, x, c.b, -1, api.OK)
		applied(t, x, c.b, nothing)
	default:
		want, why := m.check(c.b)
		checks(t, x, c.b, want, why)
		applied(t, x, c.b, m.drops(c.b))
		m = append(slices.Clone(m), c.b)
	}
	allAre(t, x, m.all()...)
	openIs(t, x, m.open())
	return m
}

// few are batches of which every short run is made; each takes a base.
func few(base int64) []try {
	return []try{
		{data(base, 0, 1, 7, true, 1), api.OK}, {data(base, 0, 1, 8, false, 1), api.OK}, {data(base, 0, 2, 0, false, 2), api.OK},
		{marker(base, 0, 1, api.Commit), api.OK}, {marker(base, 0, 1, api.Abort), api.OK}, {marker(base, 0, 2, api.Abort), api.OK},
		{data(base, 6, 1, 7, true, 1), api.OK}, {data(base, 6, 0, 8, true, 3), api.OK},
		{marker(base, 6, 1, api.Commit), api.OK}, {marker(base, 6, 1, api.Abort), api.OK},
		{free(base, 2), api.OK}, {data(base, 0, 1, 8, true, 0), api.ErrCorrupt}, {marker(base, -2, 1, api.Abort), api.ErrCorrupt},
	}
}

func TestEveryShortRun(t *testing.T) {
	first, second, third, fourth := few(0), few(3), few(6), few(9)
	for _, a := range first {
		x := New()
		ma := a.both(t, x, nil)
		for _, b := range second {
			y := x.Copy()
			mb := b.both(t, y, ma)
			for _, c := range third {
				z := y.Copy()
				mc := c.both(t, z, mb)
				for _, d := range fourth {
					d.both(t, z.Copy(), mc)
					if t.Failed() {
						t.Fatalf("the batches %v, %v, %v, %v", a.b, b.b, c.b, d.b)
					}
				}
			}
		}
	}
}

// chance returns a batch: the next one of its producer, one that was there, one that fits by chance, or one that is wrong.
func (m plain) chance(r *rand.Rand, base int64) try {
	id := []int64{0, 1, 4, 1 << 40, math.MaxInt64}[r.IntN(5)]
	l := m.of(id)
	switch r.IntN(12) {
	case 0:
		return try{free(base, 1+r.IntN(16)), api.OK}
	case 1:
		f := wrong()[r.IntN(len(wrong()))]
		return try{f.b, f.why}
	case 2, 3:
		return try{marker(base, id, r.IntN(3), api.Commit+r.IntN(2)), api.OK}
	case 4, 5:
		if len(l) > 0 {
			b := l[max(len(l)-1-r.IntN(7), 0)]
			if b.Marker == 0 {
				b.Base = base
			}
			return try{b, api.OK}
		}
	}
	b := data(base, id, r.IntN(3), []int64{0, 5, api.MaxSeq - 9, api.MaxSeq}[r.IntN(4)], r.IntN(2) == 0, 1+r.IntN(16))
	if len(l) > 0 && r.IntN(8) > 0 {
		p := m.state(id)
		b.Epoch = p.Epoch
		if n := len(p.Last); n > 0 {
			b.Seq = (p.Last[n-1][1] + 1) % (api.MaxSeq + 1)
		}
	}
	return try{b, api.OK}
}

func TestLongRuns(t *testing.T) {
	dropped, again := 0, 0
	for seed := range uint64(300) {
		r := rand.New(rand.NewPCG(seed, 11))
		x, m := New(), plain(nil)
		var had []api.Batch
		base := int64(r.IntN(3))
		for range 50 {
			c := m.chance(r, base)
			if m.drops(c.b) != nothing {
				dropped++
			}
			if at, _ := x.Check(c.b); at >= 0 {
				again++
			}
			m = c.both(t, x, m)
			had = append(had, c.b)
			base += int64(1 + r.IntN(16))
			if r.IntN(9) == 0 {
				x = x.Copy()
			}
		}
		allAre(t, Fold(had), m.all()...)
		openIs(t, Fold(had), m.open())
		for _, p := range m.all() {
			getIs(t, x, p)
		}
		if t.Failed() {
			t.Fatalf("seed %d", seed)
		}
	}
	// Few would tell little.
	if dropped < 300 || again < 300 {
		t.Errorf("only %d transactions were aborted, and %d batches were duplicates", dropped, again)
	}
}

// wild are batches of numbers of any size.
func wild() []api.Batch {
	var out []api.Batch
	numbers := []int64{math.MinInt64, -1 << 40, -2, -1, 0, 1, api.MaxSeq, api.MaxSeq + 1, api.MaxOffset, api.MaxOffset + 1, math.MaxInt64}
	for _, base := range numbers {
		for _, n := range numbers {
			for _, kind := range []int{0, api.Commit, api.Abort, 3, -1, math.MinInt, math.MaxInt} {
				for _, count := range []int{0, 1, 300} {
					for _, seq := range []int64{n, -1} {
						b := data(base, n, int(n), seq, true, count)
						b.Marker = kind
						out = append(out, b, with(b, func(b *api.Batch) { b.Txn = false }), with(b, func(b *api.Batch) { b.Epoch = 7 }))
					}
				}
			}
		}
	}
	return out
}

func TestNoCallPanics(t *testing.T) {
	l := wild()
	x := New()
	for _, b := range l {
		if at, why := x.Check(b); why != api.OK && at != -1 {
			t.Fatalf("R3: Check of %v: %d, %d", b, at, int(why))
		}
		if d, ok := x.Apply(b); !ok && d != (api.Dropped{}) {
			t.Fatalf("R3: Apply of %v: %v, false", b, d)
		}
		if _, ok := x.Get(b.Producer); ok && b.Producer < 0 {
			t.Fatalf("P11.1: %v, of no producer, is known", b)
		}
	}
	allAre(t, Fold(l), x.All()...)
	for _, p := range x.All() {
		if p.ID < 0 || p.Epoch < 0 || p.Epoch > api.MaxEpoch || len(p.Last) > api.Latest {
			t.Errorf("P11.1: a state that no valid batches lead to: %v", p)
		}
	}
	want, ok := x.Open()
	if got, is := x.Copy().Open(); got != want || is != ok {
		t.Errorf("P11.1: Open of a copy: %d, %v, want %d, %v", got, is, want, ok)
	}
}
