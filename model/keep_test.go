package model

import (
	"math"
	"slices"
	"testing"

	"bordereau/api"
	"bordereau/batch"
	"bordereau/producer"
	"bordereau/table"
)

// keeps fails the test unless Keep answers want, and what is left is what begins there or behind it.
func keeps(t *testing.T, l *Log, from, want int64) {
	t.Helper()
	left := slices.DeleteFunc(l.Batches(), func(b api.Batch) bool { return b.Base < want })
	start, end := l.Start(), l.End()
	if got := l.Keep(from); got != want {
		t.Errorf("P15.2: Keep(%d) from %d to %d: %d, want %d", from, start, end, got, want)
	}
	holds(t, "P15.2: Keep", l, want, left, table.Fold(left).All())
	if l.End() != end {
		t.Errorf("P15.2: Keep(%d) moved the end from %d to %d", from, end, l.End())
	}
}

// cuts fails the test unless Cut leaves the first want batches, and the start.
func cuts(t *testing.T, l *Log, n, want int) {
	t.Helper()
	left, start := l.Batches()[:want], l.Start()
	l.Cut(n)
	holds(t, "P15.2: Cut", l, start, left, table.Fold(left).All())
}

func TestKeep(t *testing.T) {
	// Producer 2 has a transaction open from 11 on, so nothing behind that is stable.
	for from, want := range []int64{0, 0, 2, 3, 3, 5, 6, 6, 6, 9, 10, 11, 11, 11, 11, 11, 11, 11, 11, 11} {
		l := filled(t, roomy, 0, mixed()...)
		keeps(t, l, int64(from), want)
		keeps(t, l, int64(from), want)
		// With nothing open, the end is stable.
		l = filled(t, roomy, 0, mixed()...)
		marks(t, l, 2, 0, api.Commit)
		want = []int64{0, 0, 2, 3, 3, 5, 6, 6, 6, 9, 10, 11, 11, 13, 14, 15, 15, 15, 18, 19}[from]
		keeps(t, l, int64(from), want)
		keeps(t, l, int64(from), want)
	}
	for _, from := range []int64{least, least + 1, -1 << 40, -2, -1} {
		keeps(t, filled(t, roomy, 0, mixed()...), from, 0)
	}
	for _, from := range []int64{19, 20, 1 << 33, api.MaxOffset, api.MaxOffset + 1, most - 1, most} {
		keeps(t, filled(t, roomy, 0, mixed()...), from, 11)
		keeps(t, filled(t, roomy, 0, append(mixed(), marker(2, 0, api.Abort))...), from, 19)
	}
}

// One call behind the other: the start never goes back.
func TestKeepAgain(t *testing.T) {
	l := filled(t, roomy, 0, append(mixed(), marker(2, 0, api.Abort))...)
	for _, c := range [][2]int64{{1, 0}, {2, 2}, {1, 2}, {0, 2}, {-1, 2}, {least, 2}, {4, 3}, {2, 3}, {8, 6}, {9, 9}, {6, 9}, {12, 11}, {10, 11}, {17, 15}, {14, 15}, {18, 18}, {15, 18}, {19, 19}, {18, 19}, {0, 19}, {most, 19}, {least, 19}} {
		keeps(t, l, c[0], c[1])
	}
	adds(t, l, free(2))
	for _, c := range [][2]int64{{18, 19}, {19, 19}, {20, 19}, {21, 21}, {20, 21}} {
		keeps(t, l, c[0], c[1])
	}
}

func TestKeepOfNoBatches(t *testing.T) {
	for _, start := range []int64{0, 7, api.MaxOffset} {
		for _, from := range []int64{least, -1, 0, 6, 7, 8, api.MaxOffset, most} {
			keeps(t, filled(t, roomy, start), from, start)
		}
	}
}

// At a transaction that is open, at the least one if there are several, and behind its marker.
func TestKeepUpToWhatIsStable(t *testing.T) {
	l := filled(t, roomy, 0, free(2), data(1, 0, 0, true, 2), data(2, 0, 0, true, 2), data(1, 0, 2, true, 2))
	keeps(t, l, 1, 0)
	for _, from := range []int64{2, 3, 4, 6, 8, most} {
		keeps(t, l.Copy(), from, 2)
	}
	marks(t, l, 1, 0, api.Commit)
	for _, c := range [][2]int64{{3, 2}, {4, 4}, {6, 4}, {8, 4}, {9, 4}, {most, 4}} {
		keeps(t, l.Copy(), c[0], c[1])
	}
	marks(t, l, 2, 0, api.Abort)
	for _, c := range [][2]int64{{4, 4}, {5, 4}, {6, 6}, {7, 6}, {8, 8}, {9, 9}, {10, 10}, {most, 10}} {
		keeps(t, l.Copy(), c[0], c[1])
	}
	// All is open from the start on.
	l = filled(t, roomy, 4, data(1, 0, 0, true, 3))
	keeps(t, l, most, 4)
	keeps(t, l, 5, 4)
}

// statesAre fails the test unless Producers answers want.
func statesAre(t *testing.T, l *Log, want ...api.Producer) {
	t.Helper()
	if got := l.Producers(); !slices.EqualFunc(got, want, producer.Same) {
		t.Errorf("P15.2: Producers from %d: %v, want %v", l.Start(), got, want)
	}
}

// What is known of producers is what the batches that are left tell.
func TestProducersBehindKeep(t *testing.T) {
	l := filled(t, roomy, 0, append(mixed(), marker(2, 0, api.Abort))...)
	keeps(t, l, 3, 3)
	statesAre(t, l, state(1, 4, -1, [3]int64{0, 0, 14}), state(2, 0, -1, [3]int64{0, 1, 3}, [3]int64{2, 3, 11}), state(4, 2, -1))
	keeps(t, l, 6, 6)
	statesAre(t, l, state(1, 4, -1, [3]int64{0, 0, 14}), state(2, 0, -1, [3]int64{2, 3, 11}), state(4, 2, -1))
	refuses(t, l, data(2, 0, 0, true, 2), api.ErrOrder)
	repeats(t, l, data(2, 0, 2, true, 2), 11)
	keeps(t, l, 14, 14)
	statesAre(t, l, state(1, 4, -1, [3]int64{0, 0, 14}), state(2, 0, -1))
	refusesMark(t, l, 2, 0, api.Abort, api.ErrTxn)
	keeps(t, l, 15, 15)
	statesAre(t, l, state(2, 0, -1))
	keeps(t, l, 18, 18)
	statesAre(t, l, state(2, 0, -1))
	// Of its markers alone, no number is known that another one had to follow.
	adds(t, l, data(2, 0, 77, false, 1))
	keeps(t, l, 19, 19)
	statesAre(t, l, state(2, 0, -1, [3]int64{77, 77, 19}))
	keeps(t, l, 20, 20)
	statesAre(t, l)
}

// Of one whose only batches were taken, nothing is known: any epoch and any number may come, and what was there is appended once more.
func TestOneThatIsKnownNoMore(t *testing.T) {
	b := data(1, 9, 5, false, 2)
	for _, c := range []struct {
		next api.Batch
		take func(l *Log)
	}{
		{b, func(l *Log) { l.Keep(2) }}, {data(1, 0, 3, true, 1), func(l *Log) { l.Keep(2) }}, {data(1, 9, 50, false, 1), func(l *Log) { l.Keep(most) }},
		{b, func(l *Log) { l.Cut(0) }}, {data(1, 0, 3, true, 1), func(l *Log) { l.Cut(0) }}, {data(1, 9, 50, false, 1), func(l *Log) { l.Cut(-1) }},
	} {
		l := filled(t, roomy, 0, b, free(1))
		repeats(t, l, b, 0)
		refuses(t, l, data(1, 0, 3, true, 1), api.ErrFenced)
		refuses(t, l, data(1, 9, 50, false, 1), api.ErrOrder)
		c.take(l)
		statesAre(t, l)
		refusesMark(t, l, 1, 9, api.Commit, api.ErrTxn)
		adds(t, l, c.next)
	}
}

func TestRoomBehindKeepAndCut(t *testing.T) {
	n := batch.Size(free(1))
	made := func() *Log {
		l := filled(t, api.Config{Cap: 3*n + 1}, 0, free(1), free(1), free(1))
		refuses(t, l, free(1), api.ErrFull)
		return l
	}
	for left := range 4 {
		kept, cut := made(), made()
		keeps(t, kept, int64(3-left), int64(3-left))
		cuts(t, cut, left, left)
		for _, l := range []*Log{kept, cut, kept.Copy(), cut.Copy()} {
			for range 3 - left {
				adds(t, l, free(1))
			}
			refuses(t, l, free(1), api.ErrFull)
		}
	}
	// Offsets do not come back.
	l := filled(t, roomy, api.MaxOffset-2, free(2))
	keeps(t, l, most, api.MaxOffset)
	refuses(t, l, free(1), api.ErrOverflow)
	l = filled(t, roomy, api.MaxOffset-2, free(2))
	cuts(t, l, 0, 0)
	adds(t, l, free(2))
}

func TestCut(t *testing.T) {
	count := len(mixed())
	for n := -2; n <= count+2; n++ {
		l := filled(t, roomy, 0, mixed()...)
		cuts(t, l, n, min(max(n, 0), count))
		cuts(t, l, n, min(max(n, 0), count))
		cuts(t, l, count, min(max(n, 0), count))
	}
	for _, n := range []int{math.MinInt, math.MinInt + 1, -1 << 31, -1, 0} {
		cuts(t, filled(t, roomy, 3, mixed()...), n, 0)
		cuts(t, filled(t, roomy, 3), n, 0)
	}
	for _, n := range []int{count, count + 1, 1 << 31, math.MaxInt - 1, math.MaxInt} {
		cuts(t, filled(t, roomy, 3, mixed()...), n, count)
		cuts(t, filled(t, roomy, 3), n, 0)
	}
}

// What was cut off is as if it had never been: its offsets, its numbers, its marker.
func TestProduceBehindCut(t *testing.T) {
	l := filled(t, roomy, 0, data(1, 0, 0, true, 2), data(1, 0, 2, true, 1), marker(1, 0, api.Abort), data(1, 3, 0, false, 1))
	cuts(t, l, 3, 3)
	statesAre(t, l, state(1, 0, -1, [3]int64{0, 1, 0}, [3]int64{2, 2, 2}))
	repeats(t, l, data(1, 0, 2, true, 1), 2)
	adds(t, l, data(1, 0, 3, false, 1))
	cuts(t, l, 2, 2)
	// The transaction is open again.
	statesAre(t, l, state(1, 0, 0, [3]int64{0, 1, 0}, [3]int64{2, 2, 2}))
	keeps(t, l, most, 0)
	refuses(t, l, data(1, 0, 3, false, 1), api.ErrTxn)
	marks(t, l, 1, 0, api.Commit)
	cuts(t, l, 1, 1)
	refuses(t, l, data(1, 0, 3, true, 1), api.ErrOrder)
	adds(t, l, data(1, 0, 2, true, 4))
	cuts(t, l, 0, 0)
	statesAre(t, l)
	adds(t, l, free(2))
}

// Cut counts the batches that are left, and the start stays.
func TestCutBehindKeep(t *testing.T) {
	l := filled(t, roomy, 0, append(mixed(), marker(2, 0, api.Abort))...)
	keeps(t, l, 9, 9)
	cuts(t, l, 3, 3)
	statesAre(t, l, state(1, 3, -1), state(2, 0, 11, [3]int64{2, 3, 11}))
	keeps(t, l, most, 11)
	cuts(t, l, 0, 0)
	keeps(t, l, 0, 11)
	adds(t, l, free(1))
	holds(t, "P15.2: behind Keep and Cut", l, 11, row(11, free(1)), nil)
}
