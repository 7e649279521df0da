package producer

import (
	"slices"
	"testing"

	"bordereau/api"
)

// fill overwrites all elements of l and its spare capacity.
func fill[T any](l []T, with T) {
	l = l[:cap(l)]
	for i := range l {
		l[i] = with
	}
}

// spare returns l with spare capacity behind it that holds what follows.
func spare(l [][3]int64, behind ...[3]int64) [][3]int64 {
	return slices.Concat(l, behind)[: len(l) : len(l)+len(behind)]
}

// kinds are batches of all kinds, each with a spare place for a record.
func kinds() []api.Batch {
	l := []api.Batch{
		data(50, 3, 77, false, 1), data(50, 3, 77, true, 16), data(50, 4, 0, true, 2), data(50, 2, 5, false, 2),
		marker(50, 3, api.Commit), marker(50, 3, api.Abort), marker(50, 4, api.Commit), marker(50, 2, api.Abort),
	}
	for i := range l {
		l[i].Recs = append(l[i].Recs, api.Rec{Key: "behind"})[:len(l[i].Recs)]
	}
	return l
}

// junk is an element that stands where nothing should be read.
var junk = [3]int64{77, 77, 9}

func TestArgumentsStayAsTheyAre(t *testing.T) {
	for _, l := range rows() {
		for _, b := range kinds() {
			p := state(3, 30, spare(l, junk, junk, junk)...)
			p.Last = spare(l, junk, junk, junk)
			recs := slices.Clone(b.Recs[:cap(b.Recs)])
			for _, known := range []bool{false, true} {
				Check(p, known, b)
				Apply(p, known, b)
			}
			Dup(p, b)
			Right(p)
			Same(p, p)
			if want := append(slices.Clone(l), junk, junk, junk); !slices.Equal(p.Last[:cap(p.Last)], want) {
				t.Errorf("R2: a state or what follows it was changed: %v, want %v", p.Last[:cap(p.Last)], want)
			}
			if !slices.Equal(b.Recs[:cap(b.Recs)], recs) {
				t.Errorf("R2: records or what follows them were changed: %v, want %v", b.Recs[:cap(b.Recs)], recs)
			}
		}
	}
}

func TestResultsAreNewMemory(t *testing.T) {
	for _, l := range rows() {
		for _, b := range kinds() {
			for _, known := range []bool{false, true} {
				p := state(3, 30)
				p.Last = spare(l, junk, junk)
				one, two := Apply(p, known, b), Apply(p, known, b)
				want := slices.Clone(two.Last)
				fill(one.Last, [3]int64{-9, -9, -9})
				if !slices.Equal(p.Last[:cap(p.Last)], append(slices.Clone(l), junk, junk)) {
					t.Errorf("R2: what is done to a result of Apply of %v reaches the state: %v", b, p.Last[:cap(p.Last)])
				}
				if !slices.Equal(two.Last, want) {
					t.Errorf("R2: what is done to a result of Apply of %v reaches another one: %v, want %v", b, two.Last, want)
				}
				fill(p.Last, [3]int64{-7, -7, -7})
				if !slices.Equal(two.Last, want) {
					t.Errorf("R2: what is done to a state reaches the result of Apply of %v: %v, want %v", b, two.Last, want)
				}
			}
		}
	}
}

// A state and what came of it go on for themselves, both with spare capacity.
func TestResultsGoOnForThemselves(t *testing.T) {
	p := Apply(api.Producer{}, false, data(0, 3, 0, false, 1))
	for range 4 {
		p = Apply(p, true, data(p.Last[len(p.Last)-1][2]+1, 3, next(p.Last), false, 1))
		was := state(3, -1, slices.Clone(p.Last)...)
		q := Apply(p, true, data(90, 3, next(p.Last), true, 3))
		r := Apply(p, true, data(80, 3, next(p.Last), true, 2))
		s := Apply(p, true, marker(95, 3, api.Commit))
		if !equal(p, was) || !equal(s, was) {
			t.Errorf("R2: Apply of others changed a state: %v, %v, want %v", p, s, was)
		}
		if told := q.Last[len(q.Last)-1]; told[1] != next(p.Last)+2 || told[2] != 90 || r.Last[len(r.Last)-1][2] != 80 {
			t.Errorf("R2: Apply of one batch changed what came of another: %v, %v", q, r)
		}
	}
}

func TestSpareCapacityIsNotRead(t *testing.T) {
	for _, l := range rows() {
		p, q := state(3, -1, l...), state(3, -1)
		q.Last = spare(l, [3]int64{12345, 12345, 1}, [3]int64{77, 77, 5})
		for _, b := range append(kinds(), data(50, 3, 12345, false, 1), data(50, 3, 12346, false, 1), data(50, 3, 78, false, 1)) {
			want, why := Check(p, true, b)
			answers(t, q, true, b, want, why)
			want, _ = Dup(p, b)
			dupIs(t, q, b, want)
			leads(t, q, true, b, Apply(p, true, b))
		}
		rightIs(t, q, len(l) <= 5)
		sameIs(t, p, q, true)
	}
}

func TestNilAndEmpty(t *testing.T) {
	for _, l := range [][][3]int64{nil, {}, make([][3]int64, 0, 9), row(5, 0, 0)[:0]} {
		p := state(3, 9)
		p.Last = l
		rightIs(t, p, true)
		sameIs(t, p, state(3, 9), true)
		answers(t, p, true, data(50, 3, 77, true, 1), -1, api.OK)
		answers(t, p, true, data(50, 3, 77, false, 1), -1, api.ErrTxn)
		dupIs(t, p, data(50, 3, 0, false, 1), -1)
		leads(t, p, true, data(50, 3, 77, true, 1), state(3, 9, [3]int64{77, 77, 50}))
		leads(t, p, true, marker(50, 3, api.Commit), state(3, -1))
		// A marker's records are none, nil or not.
		b := marker(50, 3, api.Commit)
		b.Recs = []api.Rec{}
		answers(t, p, true, b, -1, api.OK)
		leads(t, p, true, b, state(3, -1))
	}
}
