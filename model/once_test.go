package model

import (
	"math/rand/v2"
	"testing"

	"bordereau/api"
	"bordereau/batch"
)

// stream is the data of one producer and epoch that is left in a partition, in order, and the number that has to follow it.
type stream struct {
	left []api.Batch
	next int64
}

// streams returns what is left of each producer and its last epoch, as the batches tell it one by one.
func streams(l *Log) (map[int64]stream, map[int64]int) {
	out, epochs := map[int64]stream{}, map[int64]int{}
	for _, b := range l.Batches() {
		if b.Producer == -1 {
			continue
		}
		if epoch, known := epochs[b.Producer]; !known || epoch != b.Epoch {
			epochs[b.Producer], out[b.Producer] = b.Epoch, stream{next: -1}
		}
		if b.Marker == 0 {
			s := out[b.Producer]
			s.left = append(s.left, b)
			s.next = (b.Seq + int64(len(b.Recs))) % (api.MaxSeq + 1)
			out[b.Producer] = s
		}
	}
	return out, epochs
}

// once fails the test unless what W3 says holds for all data that is left of each producer's last epoch.
func once(t *testing.T, l *Log) {
	t.Helper()
	all, epochs := streams(l)
	for id, s := range all {
		for i, b := range s.left {
			if i > 0 {
				if want := (s.left[i-1].Seq + int64(len(s.left[i-1].Recs))) % (api.MaxSeq + 1); b.Seq != want {
					t.Errorf("W3: producer %d, epoch %d: %d follows %d records from %d on", id, b.Epoch, b.Seq, len(s.left[i-1].Recs), s.left[i-1].Seq)
				}
			}
			if len(s.left)-i <= 5 {
				repeats(t, l, b, b.Base)
			} else {
				refuses(t, l, b, api.ErrOrder)
			}
		}
		if s.next >= 0 {
			refuses(t, l, data(id, epochs[id], (s.next+1)%(api.MaxSeq+1), true, 1), api.ErrOrder)
		}
		if epochs[id] > 0 {
			refuses(t, l, data(id, epochs[id]-1, 0, true, 1), api.ErrFenced)
			refusesMark(t, l, id, epochs[id]-1, api.Abort, api.ErrFenced)
		}
	}
}

// Whatever becomes of a partition, what is left of the latest batches is known again, nothing else is, and the numbers follow each other (W3).
func TestOnce(t *testing.T) {
	for seed := range uint64(100) {
		r := rand.New(rand.NewPCG(seed, 3))
		l := New(roomy)
		for range 40 {
			all, epochs := streams(l)
			id := r.Int64N(3)
			b := data(id, epochs[id], max(all[id].next, 0), r.IntN(3) == 0, 1+r.IntN(api.MaxRecords))
			if _, known := all[id]; !known {
				b.Seq = api.MaxSeq - r.Int64N(40)
			} else if r.IntN(9) == 0 {
				b.Epoch, b.Seq = b.Epoch+1, 0
			}
			switch r.IntN(12) {
			case 0:
				l.Mark(id, b.Epoch, api.Commit+r.IntN(2))
			case 1:
				l.Keep(l.Start() + r.Int64N(l.End()-l.Start()+1))
			case 2:
				l.Cut(len(l.Batches()) - r.IntN(3))
			default:
				l.Produce(b)
			}
		}
		if once(t, l.Copy()); t.Failed() {
			t.Fatalf("seed %d", seed)
		}
	}
}

// A producer that does not know what arrived sends all of its latest batches again, and each is stored once (W3).
func TestSentAgain(t *testing.T) {
	for window := 1; window <= api.Latest; window++ {
		l := New(roomy)
		var sent []api.Batch
		seq := int64(api.MaxSeq - 20)
		for i := range 30 {
			b := data(3, 1, seq, i%7 < 3, 1+i%api.MaxRecords)
			seq = (seq + int64(len(b.Recs))) % (api.MaxSeq + 1)
			sent = append(sent, b)
			for _, again := range sent[max(len(sent)-window, 0):] {
				if _, why := l.Produce(again); why != api.OK {
					t.Errorf("W3: batch %d of %d: %d", i, len(sent), int(why))
				}
				l.Raw(encoded(again))
			}
			if i%7 == 2 {
				marks(t, l, 3, 1, api.Commit)
			}
		}
		n := 0
		for _, b := range l.Batches() {
			if b.Marker != 0 {
				continue
			}
			if !batch.Same(at(0, b), sent[n]) {
				t.Errorf("W3: %v is stored, want %v", b, sent[n])
			}
			n++
		}
		if n != len(sent) {
			t.Errorf("W3: %d batches are stored, want %d", n, len(sent))
		}
	}
}

// How a partition lies in files makes no difference: of two configurations with the same Cap, all is told alike (W1).
func TestConfigurationsAnswerAlike(t *testing.T) {
	for seed := range uint64(50) {
		r := rand.New(rand.NewPCG(seed, 1))
		x, y := New(api.Config{SegBytes: 1, IndexEvery: 1, SnapEvery: 1, Cap: 900}), New(api.Config{SegBytes: 1 << 30, IndexEvery: -7, Cap: 900})
		m := plain{c: api.Config{Cap: 900}}
		for range 50 {
			c := m.chance(r)
			behind := c.both(t, y, m)
			m = c.both(t, x, m)
			holds(t, "W1", y, m.start, behind.list, x.Producers())
		}
	}
}
