package model

import (
	"slices"
	"testing"

	"bordereau/api"
	"bordereau/batch"
	"bordereau/fold"
	"bordereau/table"
)

// fill overwrites all elements of l and its spare capacity.
func fill[T any](l []T, with T) {
	l = l[:cap(l)]
	for i := range l {
		l[i] = with
	}
}

var (
	junkRec = api.Rec{Key: "junk", Value: "junk"}
	junkAll = api.Batch{Base: -9, Producer: -9, Recs: []api.Rec{junkRec}}
)

// askAll asks everything and overwrites what is told.
func askAll(l *Log) {
	for _, b := range l.Batches() {
		fill(b.Recs, junkRec)
	}
	fill(l.Batches(), junkAll)
	for _, p := range l.Producers() {
		fill(p.Last, [3]int64{-9, -9, -9})
	}
	fill(l.Producers(), api.Producer{ID: -9})
	for _, only := range []bool{false, true} {
		f, _ := l.Fetch(l.Start(), api.MaxFetch, only)
		fill(f.Recs, api.Got{Offset: -9, Rec: junkRec})
		fill(f.Aborted, api.Dropped{Producer: -9})
	}
}

// stays fails the test unless l holds the batches of mixed.
func stays(t *testing.T, what string, l *Log) {
	t.Helper()
	holds(t, "R2: "+what, l, 0, row(0, mixed()...), mixedStates())
	repeats(t, l, data(1, 4, 0, false, 1), 14)
	for _, only := range []bool{false, true} {
		got, _ := l.Fetch(0, api.MaxFetch, only)
		if want, _ := fold.Fetch(0, row(0, mixed()...), 0, api.MaxFetch, only); !same(got, want) {
			t.Errorf("R2: %s: Fetch: %v, want %v", what, got, want)
		}
	}
}

func TestWhatIsToldIsNotShared(t *testing.T) {
	l := filled(t, roomy, 0, mixed()...)
	x := l.Copy()
	y := x.Copy()
	for _, z := range []*Log{l, x, y} {
		askAll(z)
		stays(t, "the partition", l)
		stays(t, "its copy", x)
		stays(t, "a copy of the copy", y)
	}
	// Keep and Cut that leave all leave it apart from what is told, too.
	told := l.Batches()
	l.Cut(most)
	l.Keep(0)
	askAll(l)
	stays(t, "behind Cut of none", l)
	if !slices.EqualFunc(told, row(0, mixed()...), batch.Same) {
		t.Errorf("R2: what was told was changed: %v", told)
	}
}

// What was told stays as it is, whatever becomes of the partition.
func TestWhatWasToldStays(t *testing.T) {
	for _, change := range []func(l *Log){
		func(l *Log) { l.Produce(data(1, 4, 1, true, 3)); l.Mark(2, 0, api.Abort) },
		func(l *Log) { l.Keep(6); l.Produce(free(9)); l.Produce(free(8)) },
		func(l *Log) { l.Cut(2); l.Produce(free(9)); l.Produce(free(8)) },
		func(l *Log) { l.Cut(0); l.Produce(free(9)) },
		func(l *Log) { askAll(l) },
	} {
		l := filled(t, roomy, 0, mixed()...)
		x := l.Copy()
		list, states := l.Batches(), l.Producers()
		f, _ := l.Fetch(0, api.MaxFetch, true)
		change(l)
		if !slices.EqualFunc(list, row(0, mixed()...), batch.Same) {
			t.Errorf("R2: what Batches told was changed: %v", list)
		}
		holds(t, "R2: a copy", x, 0, list, states)
		if want, _ := fold.Fetch(0, row(0, mixed()...), 0, api.MaxFetch, true); !same(f, want) {
			t.Errorf("R2: what Fetch told was changed: %v, want %v", f, want)
		}
	}
}

// No two lists of one answer are the same memory.
func TestListsOfOneAnswerAreApart(t *testing.T) {
	l := filled(t, roomy, 0, mixed()...)
	list := l.Batches()
	for i := range list {
		fill(list[i].Recs, junkRec)
		for k := i + 1; k < len(list); k++ {
			if !batch.Same(list[k], row(0, mixed()...)[k]) {
				t.Errorf("R2: batches %d and %d share memory: %v", i, k, list[k])
			}
		}
	}
	states := l.Producers()
	for i := range states {
		fill(states[i].Last, [3]int64{-9, -9, -9})
		for k := i + 1; k < len(states); k++ {
			if want := mixedStates()[k]; !slices.Equal(states[k].Last, want.Last) {
				t.Errorf("R2: states %d and %d share memory: %v", i, k, states[k])
			}
		}
	}
}

// spare returns b, whose records have one more behind them.
func spare(b api.Batch) api.Batch {
	b.Recs = append(slices.Clone(b.Recs), junkRec)[:len(b.Recs)]
	return b
}

func TestWhatIsHandedInIsNeitherChangedNorKept(t *testing.T) {
	l := New(roomy)
	for _, b := range mixed() {
		b = at(33, spare(b))
		if b.Marker != 0 {
			marks(t, l, b.Producer, b.Epoch, b.Marker)
			refuses(t, l, b, api.ErrTxn)
			continue
		}
		was := b
		was.Recs = slices.Clone(b.Recs)
		l.Produce(b)
		l.Produce(spare(api.Batch{Producer: -1, Recs: b.Recs}))
		if b.Producer >= 0 {
			repeats(t, l, b, l.End()-int64(len(b.Recs)))
		}
		if !batch.Same(b, was) || b.Recs[:len(b.Recs)+1][len(b.Recs)] != junkRec {
			t.Errorf("R2: Produce changed its batch: %v, want %v", b, was)
		}
		fill(b.Recs, junkRec)
	}
	stays(t, "behind a change of what was handed in", l)
	l = New(roomy)
	for _, b := range mixed() {
		if b.Marker != 0 {
			marks(t, l, b.Producer, b.Epoch, b.Marker)
			continue
		}
		p := append(encoded(b), 1, 2, 3)
		good, was := p[:len(p)-3], slices.Clone(p)
		takes(t, l, good, b)
		l.Raw(p)
		if !slices.Equal(p, was) {
			t.Errorf("R2: Raw changed its bytes: %v, want %v", p, was)
		}
		fill(p, 255)
	}
	stays(t, "behind a change of the bytes", l)
}

// The spare capacity of the records is not read (R5).
func TestSpareRecordsAreNotRead(t *testing.T) {
	l := New(roomy)
	b := data(1, 0, 0, true, 3)
	b.Recs = b.Recs[:1]
	adds(t, l, b)
	b.Recs = b.Recs[:0]
	refuses(t, l, b, api.ErrCorrupt)
	adds(t, l, data(1, 0, 1, true, 1))
}

// The spare capacity of the bytes is not read (R5).
func TestSpareBytesAreNotRead(t *testing.T) {
	l := New(roomy)
	p := encoded(free(2))
	refusesRaw(t, l, p[:len(p)-1], api.ErrCorrupt)
	refusesRaw(t, l, p[:0], api.ErrCorrupt)
	takes(t, l, append(p, p...)[:len(p)], free(2))
}

// A copy and what it was made of go on for themselves.
func TestCopy(t *testing.T) {
	n := batch.Size(free(1))
	l := filled(t, api.Config{Cap: 4 * n}, 5, free(1), free(1))
	x := l.Copy()
	holds(t, "P15.2: Copy", x, 5, row(5, free(1), free(1)), nil)
	// Both have the same room, each its own.
	for _, z := range []*Log{x, l} {
		adds(t, z, free(1))
		adds(t, z, free(1))
		refuses(t, z, free(1), api.ErrFull)
	}
	// Both append behind the same batches, which may have spare capacity.
	for seq := range int64(9) {
		l := filled(t, roomy, 0, mixed()[:seq]...)
		x, y := l.Copy(), l.Copy()
		for _, c := range []struct {
			l *Log
			b api.Batch
		}{{x, data(7, 0, seq, true, 2)}, {l, data(8, 0, seq, false, 1)}, {y, data(7, 1, seq, false, 3)}} {
			adds(t, c.l, c.b)
		}
		for _, c := range []struct {
			l *Log
			b api.Batch
		}{{x, data(7, 0, seq, true, 2)}, {l, data(8, 0, seq, false, 1)}, {y, data(7, 1, seq, false, 3)}} {
			want := row(0, append(mixed()[:seq], c.b)...)
			holds(t, "R2: a copy", c.l, 0, want, table.Fold(want).All())
		}
	}
}

func TestCopyGoesOnForItself(t *testing.T) {
	for _, change := range []func(l *Log){
		func(l *Log) { l.Keep(most) },
		func(l *Log) { l.Cut(3); l.Produce(free(4)) },
		func(l *Log) { l.Cut(0) },
		func(l *Log) { l.Mark(2, 0, api.Abort); l.Keep(most) },
		func(l *Log) { l.Produce(data(1, 4, 1, true, 2)) },
	} {
		l := filled(t, roomy, 0, mixed()...)
		x := l.Copy()
		change(l)
		stays(t, "a copy, behind a change of the partition", x)
		l = filled(t, roomy, 0, mixed()...)
		change(l.Copy())
		stays(t, "the partition, behind a change of its copy", l)
	}
}

// nil and empty lists mean the same (R4).
func TestNilAndEmpty(t *testing.T) {
	for _, none := range [][]api.Rec{nil, {}, make([]api.Rec, 0, 5)} {
		l := filled(t, roomy, 0, data(1, 0, 0, true, 1))
		b := data(1, 0, 1, true, 1)
		b.Recs = none
		refuses(t, l, b, api.ErrCorrupt)
		b = marker(1, 0, api.Commit)
		b.Recs = none
		refuses(t, l, b, api.ErrTxn)
	}
	for _, none := range [][]byte{nil, {}, make([]byte, 0, 50)} {
		refusesRaw(t, New(roomy), none, api.ErrCorrupt)
	}
}
