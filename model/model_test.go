package model

import (
	"math"
	"slices"
	"strconv"
	"testing"

	"bordereau/api"
	"bordereau/batch"
	"bordereau/producer"
	"bordereau/table"
)

const (
	least = math.MinInt64
	most  = math.MaxInt64
)

// roomy is a configuration with room for all that these tests append.
var roomy = api.Config{SegBytes: 1024, IndexEvery: 128, SnapEvery: 4, Cap: 1 << 20}

// recs returns that many records, which differ.
func recs(count int) []api.Rec {
	var out []api.Rec
	for i := range count {
		out = append(out, api.Rec{Key: "key " + strconv.Itoa(i), Value: "of " + strconv.Itoa(count)})
	}
	return out
}

// data returns data of a producer with that many records.
func data(id int64, epoch int, seq int64, txn bool, count int) api.Batch {
	return api.Batch{Producer: id, Epoch: epoch, Seq: seq, Txn: txn, Recs: recs(count)}
}

// free returns data of no producer.
func free(count int) api.Batch {
	return data(-1, -1, -1, false, count)
}

// marker returns a marker of that kind.
func marker(id int64, epoch, kind int) api.Batch {
	return api.Batch{Producer: id, Epoch: epoch, Seq: -1, Txn: true, Marker: kind}
}

// at returns b with that base.
func at(base int64, b api.Batch) api.Batch {
	b.Base = base
	return b
}

// row returns the batches one behind the other, the first at start.
func row(start int64, l ...api.Batch) []api.Batch {
	var out []api.Batch
	for _, b := range l {
		out = append(out, at(start, b))
		start += int64(batch.Count(b))
	}
	return out
}

// state returns the state of a producer.
func state(id int64, epoch int, open int64, l ...[3]int64) api.Producer {
	return api.Producer{ID: id, Epoch: epoch, Last: l, Open: open}
}

// filled returns a partition whose start is start and to which the batches were appended, markers too.
func filled(t *testing.T, c api.Config, start int64, l ...api.Batch) *Log {
	t.Helper()
	out := New(c)
	out.start = start
	for _, b := range l {
		base, why := int64(0), api.OK
		want := out.End()
		if b.Marker != 0 {
			base, why = out.Mark(b.Producer, b.Epoch, b.Marker)
		} else {
			base, why = out.Produce(b)
		}
		if base != want || why != api.OK {
			t.Fatalf("P15.1: %v: %d, %d, want %d, 0", b, base, int(why), want)
		}
	}
	return out
}

// same reports whether both fetches tell the same.
func same(a, b api.Fetch) bool {
	return slices.Equal(a.Recs, b.Recs) && slices.Equal(a.Aborted, b.Aborted) && a.Next == b.Next && a.Stable == b.Stable
}

// holds fails the test unless l has that start, these batches and these states, in all that it tells.
func holds(t *testing.T, what string, l *Log, start int64, want []api.Batch, states []api.Producer) {
	t.Helper()
	end := start
	if n := len(want); n > 0 {
		end = want[n-1].Base + int64(batch.Count(want[n-1]))
	}
	if l.Start() != start || l.End() != end {
		t.Errorf("%s: from %d to %d, want %d to %d", what, l.Start(), l.End(), start, end)
	}
	if got := l.Batches(); !slices.EqualFunc(got, want, batch.Same) {
		t.Errorf("%s: Batches: %v, want %v", what, got, want)
	}
	if got := l.Producers(); !slices.EqualFunc(got, states, producer.Same) {
		t.Errorf("%s: Producers: %v, want %v", what, got, states)
	}
}

// answers performs call on l, and fails the test unless it answers want and why, and has appended added there, or nothing if there is none.
func answers(t *testing.T, what string, l *Log, call func() (int64, api.Errno), want int64, why api.Errno, added ...api.Batch) {
	t.Helper()
	start, had, states := l.Start(), l.Batches(), l.Producers()
	got, is := call()
	if got != want || is != why {
		t.Errorf("P15.1: %s, behind %v: %d, %d, want %d, %d", what, had, got, int(is), want, int(why))
	}
	if len(added) == 0 {
		holds(t, "R3: behind "+what, l, start, had, states)
		return
	}
	had = append(had, at(want, added[0]))
	holds(t, "P15.1: behind "+what, l, start, had, table.Fold(had).All())
}

// adds fails the test unless Produce appends b at End.
func adds(t *testing.T, l *Log, b api.Batch) {
	t.Helper()
	answers(t, "Produce", l, func() (int64, api.Errno) { return l.Produce(b) }, l.End(), api.OK, b)
}

// repeats fails the test unless Produce answers that b is there, at that base.
func repeats(t *testing.T, l *Log, b api.Batch, base int64) {
	t.Helper()
	answers(t, "Produce again", l, func() (int64, api.Errno) { return l.Produce(b) }, base, api.OK)
}

// refuses fails the test unless Produce refuses b.
func refuses(t *testing.T, l *Log, b api.Batch, why api.Errno) {
	t.Helper()
	answers(t, "Produce", l, func() (int64, api.Errno) { return l.Produce(b) }, -1, why)
}

// marks fails the test unless Mark appends a marker at End.
func marks(t *testing.T, l *Log, id int64, epoch, kind int) {
	t.Helper()
	answers(t, "Mark", l, func() (int64, api.Errno) { return l.Mark(id, epoch, kind) }, l.End(), api.OK, marker(id, epoch, kind))
}

// refusesMark fails the test unless Mark refuses the marker.
func refusesMark(t *testing.T, l *Log, id int64, epoch, kind int, why api.Errno) {
	t.Helper()
	answers(t, "Mark", l, func() (int64, api.Errno) { return l.Mark(id, epoch, kind) }, -1, why)
}

// mixed are batches of all kinds; at 0, they lie at the offsets behind them. A transaction of producer 2 is open at the end.
func mixed() []api.Batch {
	return []api.Batch{
		free(2),                  // 0, 1
		data(1, 3, 7, false, 1),  // 2
		data(2, 0, 0, true, 2),   // 3, 4
		data(4, 1, 0, true, 1),   // 5
		data(1, 3, 8, true, 3),   // 6, 7, 8
		marker(2, 0, api.Abort),  // 9
		marker(1, 3, api.Commit), // 10
		data(2, 0, 2, true, 2),   // 11, 12
		marker(4, 2, api.Abort),  // 13
		data(1, 4, 0, false, 1),  // 14
		free(3),                  // 15, 16, 17
	}
}

// mixedStates are the states of the producers of mixed.
func mixedStates() []api.Producer {
	return []api.Producer{state(1, 4, -1, [3]int64{0, 0, 14}), state(2, 0, 11, [3]int64{0, 1, 3}, [3]int64{2, 3, 11}), state(4, 2, -1)}
}
