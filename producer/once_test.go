package producer

import (
	"math"
	"math/rand/v2"
	"slices"
	"testing"

	"bordereau/api"
)

// story is all that was appended of one producer, and what is known of it.
type story struct {
	had   []api.Batch
	p     api.Producer
	known bool
	end   int64
}

// epoch returns the epoch of the batch that was appended last.
func (s *story) epoch() int {
	if len(s.had) == 0 {
		return -1
	}
	return s.had[len(s.had)-1].Epoch
}

// open returns the base of the first batch of the transaction that has no marker yet, or -1.
func (s *story) open() int64 {
	first := int64(-1)
	for i := len(s.had) - 1; i >= 0 && s.had[i].Marker == 0; i-- {
		if s.had[i].Txn {
			first = s.had[i].Base
		}
	}
	return first
}

// latest returns the latest data of the epoch, the eldest first.
func (s *story) latest() []api.Batch {
	var out []api.Batch
	for i := len(s.had) - 1; i >= 0 && len(out) < 5 && s.had[i].Epoch == s.epoch(); i-- {
		if s.had[i].Marker == 0 {
			out = append(out, s.had[i])
		}
	}
	slices.Reverse(out)
	return out
}

// state returns what has to be known of the producer.
func (s *story) state() api.Producer {
	p := api.Producer{ID: 4, Epoch: s.epoch(), Open: s.open()}
	for _, b := range s.latest() {
		p.Last = append(p.Last, told(b))
	}
	return p
}

// want returns what Check of b has to answer, from all that was appended.
func (s *story) want(b api.Batch) (int64, api.Errno) {
	later := b.Epoch > s.epoch()
	l := s.latest()
	follows := len(l) == 0 || next([][3]int64{told(l[len(l)-1])}) == b.Seq
	switch {
	case len(s.had) == 0 && b.Marker == 0:
		return -1, api.OK
	case len(s.had) == 0:
		return -1, api.ErrTxn
	case b.Epoch < s.epoch():
		return -1, api.ErrFenced
	case b.Marker != 0 && s.open() < 0:
		return -1, api.ErrTxn
	case b.Marker != 0:
		return -1, api.OK
	case later && s.open() >= 0:
		return -1, api.ErrTxn
	case later && b.Seq != 0:
		return -1, api.ErrOrder
	case later:
		return -1, api.OK
	}
	for _, a := range l {
		if a.Seq == b.Seq && len(a.Recs) == len(b.Recs) {
			return a.Base, api.OK
		}
	}
	switch {
	case !follows:
		return -1, api.ErrOrder
	case s.open() >= 0 && !b.Txn:
		return -1, api.ErrTxn
	}
	return -1, api.OK
}

// chance returns a batch that may be right: the next one, one that was there, or one that fits in most.
func (s *story) chance(g *rand.Rand) api.Batch {
	epoch := max(s.epoch(), 0)
	if g.IntN(8) == 0 {
		epoch = min(max(epoch+g.IntN(4)-1, 0), api.MaxEpoch)
	}
	if g.IntN(6) == 0 {
		return marker(s.end, epoch, api.Commit+g.IntN(2))
	}
	if len(s.had) > 0 && g.IntN(3) == 0 {
		b := s.had[max(len(s.had)-1-g.IntN(9), 0)]
		if b.Marker == 0 && g.IntN(4) == 0 {
			b.Recs = make([]api.Rec, 1+g.IntN(api.MaxRecords))
		}
		b.Base = s.end
		return b
	}
	b := data(s.end, epoch, 0, g.IntN(2) == 0, 1+g.IntN(api.MaxRecords))
	if l := s.latest(); len(l) > 0 && (epoch == s.epoch() || g.IntN(3) == 0) {
		b.Seq = next([][3]int64{told(l[len(l)-1])})
	} else if len(l) == 0 {
		b.Seq = along(api.MaxSeq, int64(g.IntN(60)-50))
	}
	if g.IntN(8) == 0 {
		b.Seq = along(b.Seq, int64(g.IntN(40)-20))
	}
	return b
}

// add makes b the last of what was appended, and fails the test unless Apply answers what has to be known then.
func (s *story) add(t *testing.T, b api.Batch) {
	t.Helper()
	s.p, s.known = Apply(s.p, s.known, b), true
	s.had = append(s.had, b)
	s.end = b.Base + max(int64(len(b.Recs)), 1)
	if want := s.state(); !equal(s.p, want) || !Same(s.p, want) {
		t.Fatalf("P10.2: Apply behind %d batches: %v, want %v", len(s.had), s.p, want)
	}
	rightIs(t, s.p, true)
}

// again fails the test unless the latest data is recognized, and no other.
func (s *story) again(t *testing.T) {
	t.Helper()
	l := s.latest()
	for i, b := range s.had {
		if b.Marker != 0 {
			continue
		}
		late := slices.ContainsFunc(l, func(a api.Batch) bool { return a.Base == b.Base })
		got, why := Check(s.p, true, b)
		if late && (got != b.Base || why != api.OK) {
			t.Fatalf("P10.3: batch %d of %d again: %d, %d, want %d", i, len(s.had), got, int(why), b.Base)
		}
		if !late && b.Epoch < s.epoch() && (got != -1 || why != api.ErrFenced) {
			t.Fatalf("P10.3: batch %d of %d again, of an earlier epoch: %d, %d", i, len(s.had), got, int(why))
		}
		if !late && b.Epoch == s.epoch() && got == b.Base {
			t.Fatalf("P10.3: batch %d of %d again, which is older than the latest: %d, %d", i, len(s.had), got, int(why))
		}
	}
}

func TestStories(t *testing.T) {
	appended := 0
	for seed := range uint64(400) {
		g := rand.New(rand.NewPCG(seed, 10))
		s := &story{end: int64(g.IntN(3))}
		for range 60 {
			b := s.chance(g)
			want, is := s.want(b)
			if got, why := Check(s.p, s.known, b); got != want || why != is {
				t.Fatalf("P10.1: seed %d: Check of %v behind %v: %d, %d, want %d, %d", seed, b, s.p, got, int(why), want, int(is))
			}
			if want == -1 && is == api.OK {
				s.add(t, b)
				s.again(t)
				appended++
			}
		}
	}
	// Few would tell little.
	if appended < 8000 {
		t.Errorf("only %d batches were appended", appended)
	}
}

// A batch is recognized until as many as Latest have followed it, and rejected from then on.
func TestOnce(t *testing.T) {
	for n := 1; n <= api.MaxRecords; n++ {
		for _, at := range []int64{0, 77, api.MaxSeq - 30, api.MaxSeq - 1, api.MaxSeq} {
			for _, txn := range []bool{false, true} {
				s := &story{}
				for range 14 {
					s.add(t, data(s.end, 3, at, txn, n))
					at = along(at, int64(n))
					for i, b := range s.had {
						if len(s.had)-i <= 5 {
							answers(t, s.p, true, b, b.Base, api.OK)
						} else {
							answers(t, s.p, true, b, -1, api.ErrOrder)
						}
					}
				}
			}
		}
	}
}

// Markers take no place among the latest ones.
func TestOnceWithMarkers(t *testing.T) {
	s := &story{}
	for i := range int64(9) {
		s.add(t, data(s.end, 3, 2*i, true, 2))
		s.add(t, marker(s.end, 3, api.Commit+int(i%2)))
		for k := max(i-4, 0); k <= i; k++ {
			answers(t, s.p, true, s.had[2*k], s.had[2*k].Base, api.OK)
		}
		for k := range max(i-4, 0) {
			answers(t, s.p, true, s.had[2*k], -1, api.ErrOrder)
		}
	}
}

// wild are batches that are not valid, or are so by chance.
func wild() []api.Batch {
	var out []api.Batch
	for _, n := range []int64{math.MinInt64, -1 << 40, -2, -1, 0, 1, api.MaxSeq, api.MaxSeq + 1, api.MaxOffset + 1, math.MaxInt64} {
		for _, marker := range []int{0, api.Commit, api.Abort, 3, -1, math.MinInt, math.MaxInt} {
			for _, records := range []int{0, 1, api.MaxRecords, api.MaxRecords + 1, 300} {
				out = append(out, api.Batch{Base: n, Producer: n, Epoch: int(n), Seq: n, Txn: records%2 == 0, Marker: marker, Recs: make([]api.Rec, records)})
			}
		}
	}
	return out
}

func TestNoCallPanics(t *testing.T) {
	for _, n := range []int64{math.MinInt64, -1 << 40, -2, -1, 0, api.MaxSeq, api.MaxOffset + 1, math.MaxInt64} {
		for _, count := range []int{0, 1, 5, 6, 400} {
			p := api.Producer{ID: n, Epoch: int(n), Open: n, Last: slices.Repeat([][3]int64{{n, n, n}}, count)}
			Right(p)
			Same(p, p)
			for _, b := range wild() {
				if base, ok := Dup(p, b); !ok && base != -1 {
					t.Fatalf("R3: Dup of %v, with %v: %d, false", b, p, base)
				}
				for _, known := range []bool{false, true} {
					if base, why := Check(p, known, b); why != api.OK && base != -1 {
						t.Fatalf("R3: Check of %v, with %v: %d, %d", b, p, base, int(why))
					}
					q := Apply(p, known, b)
					if q.ID != b.Producer || q.Epoch != b.Epoch || b.Marker != 0 && q.Open != -1 {
						t.Fatalf("P10.2: Apply of %v, with %v: %v", b, p, q)
					}
				}
			}
		}
	}
}
