package snapshot_test

import (
	"bytes"
	"fmt"
	"math"
	"slices"
	"testing"

	"bordereau/api"
	"bordereau/producer"
	"bordereau/snapshot"
	"bordereau/table"
)

// run returns an element for each count of records: the first sequence number of the first is seq, and its base is base.
func run(seq, base int64, counts ...int64) [][3]int64 {
	var out [][3]int64
	for _, n := range counts {
		out = append(out, [3]int64{seq % (1 << 31), (seq + n - 1) % (1 << 31), base})
		seq += n
		base += n
	}
	return out
}

// accepted are states that are valid: some that batches lead to, if only such as Check would refuse, and some that none leads to.
func accepted() []api.Producer {
	out := []api.Producer{state(1, 0, -1), state(math.MaxInt64-1, 0, -1), state(1<<33, 7, -1), state(1<<33, 7, 5)}
	// Behind data there is some, and behind a marker no transaction is open: so no batch leads to the most of these.
	for _, open := range []int64{-1, 0, 1, 12, api.MaxOffset - 1, api.MaxOffset} {
		for _, epoch := range []int{0, 1, 2, api.MaxEpoch - 1, api.MaxEpoch} {
			out = append(out, state(0, epoch, open), state(4, epoch, open), state(math.MaxInt64, epoch, open))
		}
	}
	elements := [][][3]int64{
		// The three numbers of an element at their bounds, and round the end of the sequence numbers.
		run(0, 0, 1), run(0, 0, 16), run(5, api.MaxOffset, 1), run(5, api.MaxOffset, 16), run(5, api.MaxOffset-1, 1),
		run(api.MaxSeq, 9, 1), run(api.MaxSeq-1, 9, 1), run(api.MaxSeq, 9, 2), run(api.MaxSeq, 9, 16), run(api.MaxSeq-14, 9, 15), run(api.MaxSeq-14, 9, 16),
		// Two to five of them.
		run(5, 9, 1, 1), run(5, 9, 16, 1), run(0, 0, 2, 16, 1), run(5, 9, 16, 16, 16, 16), run(5, 9, 1, 2, 3, 4, 5), run(api.MaxSeq-20, 9, 7, 7, 7, 7, 7),
		{{5, 6, 0}, {7, 8, 1}}, {{5, 6, 0}, {7, 8, api.MaxOffset}}, {{5, 6, api.MaxOffset - 1}, {7, 8, api.MaxOffset}}, {{api.MaxSeq, api.MaxSeq, 3}, {0, 0, 4}},
	}
	for _, l := range elements {
		base := l[0][2]
		for _, open := range []int64{-1, 0, 1, base, base + 1, l[len(l)-1][2], 12, api.MaxOffset - 1, api.MaxOffset} {
			for _, epoch := range []int{0, 1, 2, api.MaxEpoch - 1, api.MaxEpoch} {
				if open <= api.MaxOffset {
					out = append(out, state(4, epoch, open, l...))
				}
			}
		}
	}
	return out
}

func TestReadOfStatesThatAreValid(t *testing.T) {
	l := accepted()
	for i, p := range l {
		if !producer.Right(p) {
			t.Fatalf("P10.2: Right(%v): false", p)
		}
		x := reads(t, nums(written(7, []api.Producer{p})...), 7, p)
		openIs(t, x, p.Open)
		// Between two others, of which one has what p has.
		other := l[(i*7+3)%len(l)]
		p.ID, other.ID = 3, 9
		again := p
		again.ID = math.MaxInt64
		reads(t, nums(written(8, []api.Producer{p, other, again})...), 8, p, other, again)
	}
}

// faulty is a list of numbers that no snapshot has.
type faulty struct {
	what string
	l    []int64
}

// one returns the numbers of a snapshot of one state.
func one(p api.Producer) []int64 {
	return written(7, []api.Producer{p})
}

// wrongStates are states that are not valid in one thing each.
func wrongStates() []faulty {
	at := func(what string, place int, values ...int64) []faulty {
		var out []faulty
		for _, n := range values {
			l := one(state(4, 3, 20, [3]int64{5, 6, 20}, [3]int64{7, 9, 22}))
			l[place] = n
			out = append(out, faulty{fmt.Sprintf("%s, which is %d,", what, n), l})
		}
		return out
	}
	const least, most = math.MinInt64, math.MaxInt64
	return slices.Concat(
		at("a state with a wrong ID", 2, -1, -2, least),
		at("a state with a wrong epoch", 3, -1, -2, api.MaxEpoch+1, 1<<16, 1<<16+3, 1<<32, 1<<32+3, 1<<40, 3-1<<32, least, most),
		at("a state with a wrong Open", 4, -2, -3, api.MaxOffset+1, 1<<41, least, most),
		at("a state with a wrong number of elements", 5, -1, -2, 0, 1, 3, 4, 5, 6, 7, 1<<31, 1<<32, 1<<32+2, least, most),
		at("an element with a wrong first number", 6, -1, -2, 7, 1<<31, 1<<32+5, 5-1<<31, api.MaxSeq-9, least, most),
		at("an element with a wrong last number", 7, -1, 4, 5, 7, 20, 1<<31, 1<<32+6, least, most),
		at("an element with a wrong base", 8, -1, 22, 23, api.MaxOffset, api.MaxOffset+1, least, most),
		at("a second element with a wrong first number", 9, -1, 6, 8, 1<<31, 1<<32+7, least, most),
		at("a second element with a wrong last number", 10, -1, 6, 23, 1<<31, 1<<32+9, least, most),
		at("a second element with a wrong base", 11, -1, 0, 19, 20, api.MaxOffset+1, 1<<41, least, most),
	)
}

// wrongNumbers are other lists of numbers that no snapshot has.
func wrongNumbers() []faulty {
	empty, full := state(0, 0, -1), state(0, 0, -1, run(0, 0, 1, 1, 1, 1, 1, 1)...)
	out := []faulty{
		{"no number", nil}, {"one number alone", []int64{5}}, {"a number behind the states", []int64{5, 0, 0}}, {"numbers behind the states", append(one(empty), 0, 0, -1, 0)},
		{"six latest batches", one(full)}, {"a state that is not there", []int64{5, 1}}, {"an element that is not there", []int64{5, 1, 0, 0, -1, 1}},
		{"an element of two numbers", []int64{5, 1, 0, 0, -1, 1, 0, 0}}, {"a state of three numbers", []int64{5, 1, 0, 0, -1}},
	}
	for _, n := range []int64{-1, -2, -1 << 32, math.MinInt64, api.MaxOffset + 1, 1 << 41, math.MaxInt64} {
		out = append(out, faulty{"a number that is no offset", []int64{n, 0}}, faulty{"a number that is no offset", append([]int64{n, 1}, one(empty)[2:]...)})
	}
	for _, n := range []int64{-1, -2, 2, 3, 4, 5, 1 << 31, 1 << 32, 1<<32 + 1, 1 << 62, math.MinInt64, math.MaxInt64} {
		l := one(empty)
		l[1] = n
		out = append(out, faulty{"a wrong number of states", l}, faulty{"a wrong number of states", []int64{5, n}}, faulty{"a wrong number of states", []int64{5, n, 0}})
	}
	for _, ids := range [][]int64{{0, 0}, {1, 0}, {4, 4}, {4, 3}, {math.MaxInt64, math.MaxInt64}, {math.MaxInt64, 0}, {1, 2, 2}, {1, 3, 2}, {2, 1, 3}, {1, 2, 1}, {-1, 0}, {0, -1}, {3, math.MinInt64}} {
		var some, open []api.Producer
		for i, id := range ids {
			some = append(some, state(id, i, -1))
			open = append(open, state(id, 2, int64(i), [3]int64{5, 6, int64(i)}))
		}
		out = append(out, faulty{"IDs that do not rise", written(7, some)}, faulty{"IDs that do not rise", written(7, open)})
	}
	return out
}

func TestReadOfNumbersThatNoSnapshotHas(t *testing.T) {
	for _, f := range slices.Concat(wrongStates(), wrongNumbers()) {
		corrupt(t, f.what, nums(f.l...))
	}
}

// One state that is wrong is enough, wherever it stands.
func TestReadOfOneWrongStateAmongOthers(t *testing.T) {
	for _, f := range wrongStates() {
		p := f.l[2:]
		if p[0] != 4 {
			continue
		}
		first, last := one(state(3, 0, -1))[2:], one(state(5, 0, -1))[2:]
		corrupt(t, f.what, nums(slices.Concat([]int64{7, 2}, first, p)...))
		corrupt(t, f.what, nums(slices.Concat([]int64{7, 2}, p, last)...))
		corrupt(t, f.what, nums(slices.Concat([]int64{7, 3}, first, p, last)...))
	}
}

func TestReadOfFiveLatestBatches(t *testing.T) {
	for _, open := range []int64{-1, 3, 9} {
		l := run(5, 9, 1, 2, 3, 4, 5, 6)
		reads(t, nums(one(state(4, 3, open, l[:5]...))...), 7, state(4, 3, open, l[:5]...))
		reads(t, nums(one(state(4, 3, open, l[1:]...))...), 7, state(4, 3, open, l[1:]...))
		corrupt(t, "six latest batches", nums(one(state(4, 3, open, l...))...))
	}
}

// A state with an open transaction and without latest batches is valid, though batches lead to no such state.
func TestReadOfStatesThatNoBatchLeadsTo(t *testing.T) {
	known := state(3, 1, 2, [3]int64{0, 0, 2})
	for _, open := range []int64{0, 1, 2, 7, api.MaxOffset - 1, api.MaxOffset} {
		p, q := state(4, 3, open), state(2, 0, open)
		x := reads(t, nums(5, 1, 4, 3, open, 0), 5, p)
		openIs(t, x, open)
		aborts(t, x, p, 1<<20)
		openIs(t, x, -1)
		// Beside others, also of its own kind.
		x = reads(t, nums(written(9, []api.Producer{q, known, p})...), 9, q, known, p)
		openIs(t, x, min(open, 2))
		aborts(t, x, q, 30)
		aborts(t, x, known, 31)
		openIs(t, x, open)
		aborts(t, x, p, 32)
		openIs(t, x, -1)
	}
}

// openIs fails the test unless Open of x answers want, and true unless that is -1.
func openIs(t *testing.T, x *table.Table, want int64) {
	t.Helper()
	if got, ok := x.Open(); got != want || ok != (want != -1) {
		t.Errorf("P12.1: Open of what was read, %v: %d, %v, want %d", x.All(), got, ok, want)
	}
}

// aborts fails the test unless a marker at base is taken by x, and aborts the transaction of p.
func aborts(t *testing.T, x *table.Table, p api.Producer, base int64) {
	t.Helper()
	b := marker(base, p.ID, p.Epoch, api.Abort)
	if at, why := x.Check(b); at != -1 || why != api.OK {
		t.Errorf("P12.1: Check of %v with what was read, %v: %d, %d, want -1, 0", b, p, at, int(why))
	}
	want := api.Dropped{Producer: p.ID, First: p.Open, Last: base}
	if d, ok := x.Apply(b); d != want || !ok {
		t.Errorf("P12.1: Apply of %v with what was read, %v: %v, %v, want %v, true", b, p, d, ok, want)
	}
}

// Such a state is held to all else that is asked of one.
func TestReadOfOpenTransactionsThatAreNotValid(t *testing.T) {
	for _, l := range [][]int64{
		{5, 1, 4, 3, -2, 0}, {5, 1, 4, 3, math.MinInt64, 0}, {5, 1, 4, 3, api.MaxOffset + 1, 0}, {5, 1, 4, 3, math.MaxInt64, 0},
		{5, 1, -1, 3, 0, 0}, {5, 1, 4, -1, 0, 0}, {5, 1, 4, api.MaxEpoch + 1, 0, 0}, {5, 1, 4, 1<<32 + 3, 0, 0},
		{5, 2, 4, 3, 0, 0, 4, 3, 0, 0}, {5, 2, 4, 3, 0, 0, 3, 3, 0, 0}, {5, 2, 4, 3, 0, 0}, {5, 0, 4, 3, 0, 0}, {5, 1, 4, 3, 0}, {5, 1, 4, 3, 0, 1}, {5, 1, 4, 3, 0, -1}, {5, 1, 4, 3, 0, 0, 0},
		{-1, 1, 4, 3, 0, 0}, {api.MaxOffset + 1, 1, 4, 3, 0, 0},
	} {
		corrupt(t, "an open transaction without latest batches", nums(l...))
	}
}

func TestReadOfBytesThatAreCutOff(t *testing.T) {
	for _, r := range rows() {
		b := nums(r.want...)
		for n := range b {
			corrupt(t, "bytes that are cut off", b[:n])
			corrupt(t, "bytes that are cut off", b[len(b)-n:])
			if n >= 4 {
				corrupt(t, "bytes that are cut off, with a good sum,", summed(b[4:n]))
			}
		}
	}
	for n := range 4 {
		corrupt(t, "fewer than four bytes", make([]byte, n))
		corrupt(t, "fewer than four bytes", bytes.Repeat([]byte{0xff}, n))
	}
	corrupt(t, "a sum without numbers", make([]byte, 4))
	corrupt(t, "a sum without numbers", []byte{1, 2, 3, 4})
}

func TestReadOfBytesThatWereTurned(t *testing.T) {
	for _, r := range rows() {
		b := nums(r.want...)
		for i := range b {
			for x := 1; x < 256; x++ {
				y := slices.Clone(b)
				y[i] ^= byte(x)
				corrupt(t, "bytes of which one was turned", y)
			}
		}
	}
}

func TestReadOfBytesWithMoreBehind(t *testing.T) {
	for _, r := range rows() {
		b := nums(r.want...)
		for _, more := range [][]byte{{0}, {1}, {0x80}, {0xff}, {0, 0, 0, 0}, b, b[4:], plain(0, 0, -1, 0)} {
			corrupt(t, "bytes with more behind", slices.Concat(b, more))
			corrupt(t, "bytes with more behind, with a good sum,", summed(slices.Concat(b[4:], more)))
			corrupt(t, "bytes with more in front", slices.Concat(more, b))
		}
	}
}

// longer returns the number in more bytes than it needs: the last one says that more follow, and they add nothing.
func longer(n int64, more int) []byte {
	b := plain(n)
	for range more {
		b[len(b)-1] |= 0x80
		b = append(b, 0)
	}
	return b
}

func TestReadOfNumbersThatAreLongerThanTheyNeedToBe(t *testing.T) {
	for _, r := range rows() {
		for i, n := range r.want {
			front, behind := plain(r.want[:i]...), plain(r.want[i+1:]...)
			for _, more := range []int{1, 2, 9, 10, 100} {
				corrupt(t, "a number that is longer than it needs to be", summed(slices.Concat(front, longer(n, more), behind)))
			}
			// More bits than a number has, and bytes that never end.
			for _, x := range [][]byte{bytes.Repeat([]byte{0xff}, 300), append(bytes.Repeat([]byte{0xff}, 9), 2), append(bytes.Repeat([]byte{0x80}, 9), 2), append(bytes.Repeat([]byte{0x80}, 10), 1)} {
				corrupt(t, "a number that is none", summed(slices.Concat(front, x, behind)))
				corrupt(t, "a number that is none", summed(slices.Concat(front, x)))
			}
		}
	}
}

// However great the numbers are that tell how much follows, the call comes to an end, and soon.
func TestReadComesToAnEnd(t *testing.T) {
	zeros := make([]int64, 4000)
	for _, n := range []int64{math.MaxInt64, 1 << 62, 1 << 40, 1 << 31, -1, math.MinInt64} {
		for range 100 {
			corrupt(t, "a great number of states", nums(append([]int64{0, n}, zeros...)...))
			corrupt(t, "a great number of elements", nums(append([]int64{0, 1, 0, 0, -1, n}, zeros...)...))
			corrupt(t, "a great number of both", nums(0, n, 0, 0, -1, n))
		}
	}
	// As many states as the number tells, each of them valid, but for the last.
	var l []api.Producer
	for id := range int64(3000) {
		l = append(l, state(id, 0, -1))
	}
	reads(t, nums(written(7, l)...), 7, l...)
	l[2999].ID = 2998
	corrupt(t, "many states", nums(written(7, l)...))
}

func TestReadKeepsNoBytes(t *testing.T) {
	for _, r := range rows() {
		b := nums(r.want...)
		x, _, _ := snapshot.Read(b)
		fill(b)
		bytesAre(t, x, r.at, r.want...)
	}
}

// Behind the bytes stand others, which are as good as those of a snapshot.
func TestReadLeavesTheBytesAsTheyAre(t *testing.T) {
	for _, r := range rows() {
		b := nums(r.want...)
		for n := range len(b) + 1 {
			whole := slices.Clone(b)
			x, _, why := snapshot.Read(whole[:n])
			if (why == api.OK) != (n == len(b)) || (x == nil) != (n < len(b)) {
				t.Errorf("R5: Read of %d bytes, with %d behind them: %v, %d", n, len(b)-n, x, int(why))
			}
			if !bytes.Equal(whole, b) {
				t.Errorf("R2: Read changed the bytes: %v, want %v", whole, b)
			}
		}
		more := append(slices.Clone(b), 1, 2, 3)
		reads(t, more[:len(b)], r.at, table.Fold(r.l).All()...)
		if !bytes.Equal(more, append(slices.Clone(b), 1, 2, 3)) {
			t.Errorf("R2: Read changed what follows the bytes: %v", more)
		}
	}
}

// What is read twice is two tables.
func TestReadIsNewEachTime(t *testing.T) {
	for _, r := range rows() {
		b := nums(r.want...)
		x, _, _ := snapshot.Read(b)
		y, _, _ := snapshot.Read(b)
		x.Apply(data(500, 4, 3, 12, true, 2))
		x.Apply(data(502, 77, 0, 0, true, 2))
		for _, p := range x.All() {
			for i := range p.Last {
				p.Last[i] = [3]int64{-9, -9, -9}
			}
		}
		bytesAre(t, y, r.at, r.want...)
		reads(t, b, r.at, table.Fold(r.l).All()...)
	}
}
