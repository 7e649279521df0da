package snapshot_test

import (
	"bytes"
	"encoding/binary"
	"math"
	"math/rand/v2"
	"slices"
	"testing"

	"bordereau/api"
	"bordereau/producer"
	"bordereau/snapshot"
	"bordereau/table"
)

// numbersOf returns the numbers that b is made of and true, by Go's own library; false if it is made of no numbers.
func numbersOf(b []byte) ([]int64, bool) {
	var out []int64
	for rest := b; len(rest) > 0; {
		n, k := binary.Varint(rest)
		if k <= 0 {
			return nil, false
		}
		out = append(out, n)
		rest = rest[k:]
	}
	// Go's library reads numbers that are longer than they need to be.
	return out, bytes.Equal(plain(out...), b)
}

// statesOf returns the states that the numbers tell, as far as they go.
func statesOf(l []int64) []api.Producer {
	var out []api.Producer
	for len(l) >= 4 {
		p := state(l[0], int(l[1]), l[2])
		count := l[3]
		for l = l[4:]; count > 0 && len(l) >= 3; count-- {
			p.Last = append(p.Last, [3]int64(l))
			l = l[3:]
		}
		out = append(out, p)
	}
	return out
}

// good reports whether states, in this order, are those of a table, each of them valid.
func good(states []api.Producer) bool {
	for i, p := range states {
		if !producer.Right(p) || i > 0 && p.ID <= states[i-1].ID {
			return false
		}
	}
	return true
}

// agrees fails the test unless Read of b, behind a good sum, answers what its numbers tell. It reports whether they tell a table.
func agrees(t *testing.T, b []byte) bool {
	t.Helper()
	l, ok := numbersOf(b)
	if ok && len(l) >= 2 && l[0] >= 0 && l[0] <= api.MaxOffset {
		states := statesOf(l[2:])
		if good(states) && slices.Equal(written(l[0], states), l) {
			reads(t, summed(b), l[0], states...)
			return true
		}
	}
	corrupt(t, "numbers with a good sum", summed(b))
	return false
}

func TestReadOfOneOtherByte(t *testing.T) {
	tables := 0
	for _, r := range rows() {
		b := plain(r.want...)
		for i := range b {
			for x := range 256 {
				turned := slices.Clone(b)
				turned[i] = byte(x)
				if agrees(t, turned) {
					tables++
				}
				agrees(t, slices.Insert(slices.Clone(b), i, byte(x)))
			}
			agrees(t, slices.Delete(slices.Clone(b), i, i+1))
		}
	}
	// Few would tell little.
	if tables < 1000 {
		t.Errorf("only %d tables were read", tables)
	}
}

func TestReadOfOneOtherNumber(t *testing.T) {
	values := []int64{math.MinInt64, -1 << 32, -3, -2, -1, 0, 1, 2, 3, 4, 5, 6, 7, 8, 9, 10, 15, 16, 17, 20, 50, api.MaxEpoch, api.MaxEpoch + 1, 1 << 16, api.MaxSeq, api.MaxSeq + 1, 1 << 32, api.MaxOffset, api.MaxOffset + 1, math.MaxInt64}
	for _, r := range rows() {
		for i := range r.want {
			for _, n := range values {
				l := slices.Clone(r.want)
				l[i] = n
				agrees(t, plain(l...))
				agrees(t, plain(slices.Insert(l, i, n)...))
			}
			agrees(t, plain(slices.Delete(slices.Clone(r.want), i, i+1)...))
		}
	}
}

// Every row of up to four small numbers behind a number of states.
func TestReadOfEveryShortRow(t *testing.T) {
	var l [4]int64
	for n := range 9 * 9 * 9 * 9 {
		for i, x := 0, n; i < len(l); i, x = i+1, x/9 {
			l[i] = int64(x%9) - 2
		}
		for k := range len(l) + 1 {
			agrees(t, plain(append([]int64{5, 1}, l[:k]...)...))
			agrees(t, plain(append([]int64{5, 2, 0, 3, -1, 0}, l[:k]...)...))
		}
		agrees(t, plain(append([]int64{5, 1, 7, 0, -1, 1}, l[:3]...)...))
		agrees(t, plain(append([]int64{5, 1, 7, 0, l[3], 2, 0, 2, 1}, l[:3]...)...))
		if t.Failed() {
			t.Fatalf("the row %v", l)
		}
	}
}

// chance returns a state that is valid, whether batches lead to it or not.
func chance(r *rand.Rand, id int64) api.Producer {
	some := func(l ...int64) int64 { return l[r.IntN(len(l))] }
	counts := make([]int64, r.IntN(6))
	for i := range counts {
		counts[i] = int64(1 + r.IntN(16))
	}
	seq, base := some(0, 1, api.MaxSeq-20, api.MaxSeq), some(0, 1, 1000, api.MaxOffset-80)
	p := state(id, int(some(0, 1, 2, api.MaxEpoch-1, api.MaxEpoch)), -1, run(seq, base, counts...)...)
	if r.IntN(2) == 0 {
		p.Open = max(some(0, base, base+1, base-1, api.MaxOffset), 0)
	}
	return p
}

func TestReadOfTablesByChance(t *testing.T) {
	tables, others := 0, 0
	for seed := range uint64(3000) {
		r := rand.New(rand.NewPCG(seed, 12))
		var states []api.Producer
		id := int64(r.IntN(3))
		for range r.IntN(5) {
			states = append(states, chance(r, id))
			id += 1 + r.Int64N(1<<(1+r.IntN(40)))
		}
		b := plain(written(r.Int64N(api.MaxOffset+1), states)...)
		if agrees(t, b) {
			tables++
		}
		for range 20 {
			turned := slices.Clone(b)
			turned[r.IntN(len(b))] ^= byte(1 << r.IntN(8))
			if !agrees(t, turned) {
				others++
			}
		}
		if t.Failed() {
			t.Fatalf("seed %d", seed)
		}
	}
	// Each of them is one.
	if tables != 3000 || others < 2000 {
		t.Errorf("only %d tables were read, and %d other bytes", tables, others)
	}
}

// No bytes make Read panic or go on without end, and what it takes for a table is one.
func TestReadOfBytesByChance(t *testing.T) {
	for seed := range uint64(20000) {
		r := rand.New(rand.NewPCG(seed, 12))
		b := make([]byte, r.IntN(40))
		for i := range b {
			// Small bytes, which are numbers for themselves, and all of them.
			b[i] = byte(r.IntN(4 << (3 * r.IntN(3))))
		}
		agrees(t, b)
		if x, at, why := snapshot.Read(b); why != api.OK {
			corrupt(t, "bytes by chance", b)
		} else if !bytes.Equal(snapshot.Bytes(x, at), b) {
			t.Errorf("P12.1: Read of %v: %v, %d", b, x.All(), at)
		}
		if t.Failed() {
			t.Fatalf("seed %d", seed)
		}
	}
}

// next are batches that may follow, or not, a table that knows producer 4, among others.
func next(p api.Producer) []api.Batch {
	var out []api.Batch
	seqs := []int64{0, 5, api.MaxSeq}
	for _, e := range p.Last {
		seqs = append(seqs, e[0], e[1], (e[1]+1)%(1<<31))
		out = append(out, data(1<<30, p.ID, p.Epoch, e[0], p.Open >= 0, int((e[1]-e[0]+1<<31)%(1<<31))+1))
	}
	for _, epoch := range []int{p.Epoch - 1, p.Epoch, p.Epoch + 1} {
		for _, seq := range seqs {
			out = append(out, data(1<<30, p.ID, epoch, seq, false, 1), data(1<<30, p.ID, epoch, seq, true, 2))
		}
		out = append(out, marker(1<<30, p.ID, epoch, api.Commit), marker(1<<30, p.ID, epoch, api.Abort))
	}
	return append(out, free(1<<30, 1), data(1<<30, 1000, 0, 0, true, 1), marker(1<<30, 1000, 0, api.Abort))
}

// goesOn fails the test unless b has the same effects on both tables.
func goesOn(t *testing.T, x, y *table.Table, b api.Batch) {
	t.Helper()
	wantAt, wantWhy := x.Check(b)
	if at, why := y.Check(b); at != wantAt || why != wantWhy {
		t.Errorf("P12.1: Check of %v with what was read, %v: %d, %d, want %d, %d", b, y.All(), at, int(why), wantAt, int(wantWhy))
	}
	want, was := x.Apply(b)
	if d, ok := y.Apply(b); d != want || ok != was {
		t.Errorf("P12.1: Apply of %v with what was read: %v, %v, want %v, %v", b, d, ok, want, was)
	}
	bytesAre(t, y, 1, written(1, x.All())...)
	wantOpen, open := x.Open()
	if at, ok := y.Open(); at != wantOpen || ok != open {
		t.Errorf("P12.1: Open behind %v, with what was read: %d, %v, want %d, %v", b, at, ok, wantOpen, open)
	}
}

func TestWhatWasReadGoesOn(t *testing.T) {
	for _, r := range rows() {
		for _, p := range append(table.Fold(r.l).All(), state(4, 3, -1)) {
			l := next(p)
			for _, b := range l {
				x, y := table.Fold(r.l), reads(t, nums(r.want...), r.at, table.Fold(r.l).All()...)
				goesOn(t, x, y, b)
				goesOn(t, x.Copy(), y.Copy(), b)
				for _, c := range l {
					goesOn(t, x.Copy(), y.Copy(), c)
				}
			}
		}
	}
}

// What was read of numbers goes on by the state that they tell, whether batches lead to it or not.
func TestStatesThatWereReadGoOn(t *testing.T) {
	for _, p := range accepted() {
		for _, b := range next(p) {
			if b.Producer != p.ID || b.Epoch < 0 || b.Epoch > api.MaxEpoch {
				continue
			}
			x := reads(t, nums(one(p)...), 7, p)
			wantAt, wantWhy := producer.Check(p, true, b)
			if at, why := x.Check(b); at != wantAt || why != wantWhy {
				t.Errorf("P12.1: Check of %v behind %v: %d, %d, want %d, %d", b, p, at, int(why), wantAt, int(wantWhy))
			}
			x.Apply(b)
			bytesAre(t, x, 3, written(3, []api.Producer{producer.Apply(p, true, b)})...)
		}
	}
}

// history returns batches that Check accepts, one behind the other, of a few producers.
func history(r *rand.Rand) []api.Batch {
	x := table.New()
	var out []api.Batch
	base := int64(0)
	for range r.IntN(60) {
		id := int64(r.IntN(4))
		p, known := x.Get(id)
		b := data(base, id, p.Epoch, 0, r.IntN(2) == 0, 1+r.IntN(16))
		if n := len(p.Last); n > 0 {
			b.Seq = (p.Last[n-1][1] + 1) % (1 << 31)
		}
		switch r.IntN(8) {
		case 0:
			b = free(base, 1)
		case 1:
			b.Epoch, b.Seq = p.Epoch+1, 0
		case 2, 3:
			b = marker(base, id, p.Epoch+r.IntN(2), api.Commit+r.IntN(2))
		}
		if !known && b.Marker == 0 && id > 0 {
			b.Seq = api.MaxSeq - 40
		}
		if at, why := x.Check(b); at >= 0 || why != api.OK {
			continue
		}
		x.Apply(b)
		out = append(out, b)
		base += int64(max(len(b.Recs), 1))
	}
	return out
}

// Wherever a history is written and read, it goes on as it would have.
func TestHistories(t *testing.T) {
	total := 0
	for seed := range uint64(400) {
		r := rand.New(rand.NewPCG(seed, 12))
		l := history(r)
		x, y := table.New(), table.New()
		for i, b := range l {
			goesOn(t, x, y, b)
			bytesAre(t, x, b.Base, written(b.Base, y.All())...)
			if r.IntN(3) > 0 {
				y = reads(t, snapshot.Bytes(y, int64(i)), int64(i), x.All()...)
			}
		}
		total += len(l)
		if t.Failed() {
			t.Fatalf("seed %d", seed)
		}
	}
	if total < 4000 {
		t.Errorf("only %d batches were accepted", total)
	}
}
