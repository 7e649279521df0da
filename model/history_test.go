package model

import (
	"math"
	"math/rand/v2"
	"slices"
	"testing"

	"bordereau/api"
	"bordereau/batch"
	"bordereau/fold"
	"bordereau/table"
)

// plain is a partition as its configuration, its start and its batches, from which it works out all else each time.
type plain struct {
	c     api.Config
	start int64
	list  []api.Batch
}

// end returns the offset behind all batches.
func (m plain) end() int64 {
	end := m.start
	for _, b := range m.list {
		end += int64(max(len(b.Recs), min(b.Marker, 1)))
	}
	return end
}

// size returns the bytes of all batches.
func (m plain) size() int {
	n := 0
	for _, b := range m.list {
		n += len(encoded(b))
	}
	return n
}

// stable returns the end, or where the first transaction began that has no marker.
func (m plain) stable() int64 {
	out := m.end()
	for i, b := range m.list {
		ended := slices.ContainsFunc(m.list[i:], func(x api.Batch) bool { return x.Producer == b.Producer && x.Marker != 0 })
		if b.Txn && b.Marker == 0 && !ended {
			out = min(out, b.Base)
		}
	}
	return out
}

// add answers by the rules of Produce, but for the second one, and returns the partition behind it.
func (m plain) add(b api.Batch) (plain, int64, api.Errno) {
	b.Base = m.end()
	if why := batch.Right(b); why != api.OK {
		return m, -1, why
	}
	switch base, why := table.Fold(m.list).Check(b); {
	case why != api.OK:
		return m, -1, why
	case base != -1:
		return m, base, api.OK
	case m.size()+len(encoded(b)) > m.c.Cap:
		return m, -1, api.ErrFull
	case m.end()+int64(batch.Count(b)) > api.MaxOffset:
		return m, -1, api.ErrOverflow
	}
	m.list = append(slices.Clone(m.list), b)
	return m, b.Base, api.OK
}

// produce answers as Produce.
func (m plain) produce(b api.Batch) (plain, int64, api.Errno) {
	if batch.Right(at(0, b)) == api.OK && b.Marker != 0 {
		return m, -1, api.ErrTxn
	}
	return m.add(b)
}

// keep moves the start as Keep does: over whole batches, as long as their ends are at or ahead of from and of what is stable.
func (m plain) keep(from int64) plain {
	top := min(from, m.stable())
	for len(m.list) > 0 {
		next := m.list[0].Base + int64(batch.Count(m.list[0]))
		if next > top {
			break
		}
		m.start, m.list = next, m.list[1:]
	}
	return m
}

// call is one call of both; what is told as a number is -1 where there is none.
type call struct {
	name  string
	plain func(m plain) (plain, int64, api.Errno)
	log   func(l *Log) (int64, api.Errno)
}

func produceOf(b api.Batch) call {
	return call{"Produce", func(m plain) (plain, int64, api.Errno) { return m.produce(b) }, func(l *Log) (int64, api.Errno) { return l.Produce(b) }}
}

func rawOf(b api.Batch) call {
	return call{"Raw", func(m plain) (plain, int64, api.Errno) { return m.produce(b) }, func(l *Log) (int64, api.Errno) { return l.Raw(encoded(b)) }}
}

func markOf(id int64, epoch, kind int) call {
	return call{"Mark", func(m plain) (plain, int64, api.Errno) {
		if kind == 0 {
			return m, -1, api.ErrCorrupt
		}
		return m.add(marker(id, epoch, kind))
	}, func(l *Log) (int64, api.Errno) { return l.Mark(id, epoch, kind) }}
}

func keepOf(from int64) call {
	return call{"Keep", func(m plain) (plain, int64, api.Errno) {
		m = m.keep(from)
		return m, m.start, api.OK
	}, func(l *Log) (int64, api.Errno) { return l.Keep(from), api.OK }}
}

func cutOf(n int) call {
	return call{"Cut", func(m plain) (plain, int64, api.Errno) {
		m.list = m.list[:min(max(n, 0), len(m.list))]
		return m, -1, api.OK
	}, func(l *Log) (int64, api.Errno) {
		l.Cut(n)
		return -1, api.OK
	}}
}

// both performs the call on both, fails the test unless they agree, and returns the plain one behind it.
func (c call) both(t *testing.T, l *Log, m plain) plain {
	t.Helper()
	got, is := c.log(l)
	behind, want, why := c.plain(m)
	if got != want || is != why {
		t.Errorf("P15.1: %s, behind %v from %d: %d, %d, want %d, %d", c.name, m.list, m.start, got, int(is), want, int(why))
	}
	m = behind
	holds(t, "behind "+c.name, l, m.start, m.list, table.Fold(m.list).All())
	for _, only := range []bool{false, true} {
		f, why := l.Fetch(m.start, 7, only)
		if want, is := fold.Fetch(m.start, m.list, m.start, 7, only); why != is || !same(f, want) || f.Stable != m.stable() {
			t.Errorf("P15.1: Fetch behind %s: %v, %d, want %v, %d", c.name, f, int(why), want, int(is))
		}
	}
	return m
}

// few are calls of which every short run is made.
func few() []call {
	return []call{
		produceOf(free(1)), produceOf(data(4, 0, 0, true, 2)), produceOf(data(4, 0, 0, false, 2)), produceOf(data(4, 0, 2, true, 1)), produceOf(data(4, 1, 0, false, 1)), produceOf(data(9, 0, 5, true, 1)), produceOf(marker(4, 0, api.Abort)), produceOf(data(4, 0, -1, true, 1)),
		rawOf(at(70, data(4, 0, 2, true, 1))), markOf(4, 0, api.Commit), markOf(4, 1, api.Abort), markOf(9, 0, api.Abort), markOf(4, 0, 0),
		keepOf(1), keepOf(2), keepOf(most), cutOf(1), cutOf(-1),
	}
}

func TestEveryShortRun(t *testing.T) {
	l := few()
	room := api.Config{Cap: len(encoded(data(4, 0, 0, true, 2))) + len(encoded(free(1))) + len(encoded(marker(4, 0, api.Abort)))}
	first := New(room)
	var run func(x *Log, m plain, left int)
	run = func(x *Log, m plain, left int) {
		if left == 0 || t.Failed() {
			return
		}
		for _, c := range l {
			y := x.Copy()
			run(y, c.both(t, y, m), left-1)
		}
	}
	run(first, plain{c: room}, 4)
	holds(t, "R2: what all were copied from", first, 0, nil, nil)
}

// chance returns a call that may be right: the next batch of a producer, one that was there, one that fits by chance, or another call.
func (m plain) chance(r *rand.Rand) call {
	id, epoch := r.Int64N(4), r.IntN(3)
	b := data(id, epoch, r.Int64N(3), r.IntN(2) == 0, 1+r.IntN(4))
	if p, ok := table.Fold(m.list).Get(id); ok && r.IntN(6) > 0 {
		b.Epoch = p.Epoch
		if n := len(p.Last); n > 0 {
			b.Seq = (p.Last[n-1][1] + 1) % (api.MaxSeq + 1)
		}
		b.Txn = b.Txn || p.Open >= 0
	}
	switch n := len(m.list); r.IntN(16) {
	case 0:
		return markOf(id, epoch, r.IntN(4)-1)
	case 1, 2, 3:
		return markOf(id, b.Epoch, api.Commit+r.IntN(2))
	case 4:
		return keepOf(m.start + r.Int64N(m.end()-m.start+4) - 1)
	case 5:
		if r.IntN(4) == 0 {
			return cutOf(n - r.IntN(4))
		}
	case 6, 7:
		if n > 0 {
			return produceOf(m.list[max(n-1-r.IntN(7), 0)])
		}
	case 8:
		return produceOf(free(1 + r.IntN(16)))
	case 9:
		return produceOf(data(id-1, epoch-1, r.Int64N(9)-2, r.IntN(2) == 0, r.IntN(18)))
	case 10, 11:
		return rawOf(at(r.Int64N(99), b))
	}
	return produceOf(b)
}

func TestLongRuns(t *testing.T) {
	told := map[api.Errno]int{}
	for seed := range uint64(300) {
		r := rand.New(rand.NewPCG(seed, 15))
		c := api.Config{Cap: 200 + r.IntN(1200)}
		if r.IntN(3) == 0 {
			c.Cap = math.MaxInt
		}
		l, m := New(c), plain{c: c}
		if r.IntN(4) == 0 {
			l.start = api.MaxOffset - 40
			m.start = l.start
		}
		for range 60 {
			one := m.chance(r)
			_, _, why := one.plain(m)
			told[why]++
			if r.IntN(9) == 0 {
				l = l.Copy()
			}
			if m = one.both(t, l, m); t.Failed() {
				t.Fatalf("seed %d", seed)
			}
		}
	}
	// Few would tell little.
	for _, why := range []api.Errno{api.OK, api.ErrCorrupt, api.ErrFenced, api.ErrOrder, api.ErrTxn, api.ErrFull, api.ErrOverflow} {
		if told[why] < 100 {
			t.Errorf("only %d calls told %d", told[why], int(why))
		}
	}
}
