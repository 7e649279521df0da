package aborts_test

import (
	"bytes"
	"encoding/binary"
	"fmt"
	"hash/crc32"
	"slices"
	"testing"

	"bordereau/aborts"
	"bordereau/api"
)

// plain returns numbers as bytes, by Go's own library, which writes them in the same way.
func plain(l ...int64) []byte {
	var b []byte
	for _, n := range l {
		b = binary.AppendVarint(b, n)
	}
	return b
}

// summed returns b behind its checksum, by Go's own library.
func summed(b []byte) []byte {
	sum := crc32.Checksum(b, crc32.MakeTable(crc32.Castagnoli))
	return append(binary.LittleEndian.AppendUint32(nil, sum), b...)
}

// nums returns numbers as bytes behind their checksum.
func nums(l ...int64) []byte {
	return summed(plain(l...))
}

// written returns the numbers of transactions, in the chapter's order.
func written(l []api.Dropped) []int64 {
	out := []int64{int64(len(l))}
	for _, d := range l {
		out = append(out, d.Producer, d.First, d.Last)
	}
	return out
}

// bytesAre fails the test unless Bytes are these numbers, behind their checksum.
func bytesAre(t *testing.T, r *aborts.Row, want ...int64) {
	t.Helper()
	if got := r.Bytes(); !bytes.Equal(got, nums(want...)) {
		t.Errorf("P13.1: Bytes of %v: %v, want those of %v", r.All(), got, want)
	}
}

// reads fails the test unless Read of b answers a list of these transactions and OK, and its Bytes are b.
func reads(t *testing.T, b []byte, want ...api.Dropped) *aborts.Row {
	t.Helper()
	r, why := aborts.Read(b)
	if why != api.OK || r == nil {
		t.Fatalf("P13.1: Read of the numbers of %v: %v, %d, want 0", want, r, int(why))
	}
	allAre(t, r, want...)
	if got := r.Bytes(); !bytes.Equal(got, b) {
		t.Errorf("P13.1: Bytes of what was read: %v, want %v", got, b)
	}
	return r
}

// corrupt fails the test unless Read of b answers nil and ErrCorrupt.
func corrupt(t *testing.T, what string, b []byte) {
	t.Helper()
	if r, why := aborts.Read(b); r != nil || why != api.ErrCorrupt {
		t.Errorf("P13.1: Read of %s, %v: %v, %d, want nil, 12", what, b, r, int(why))
	}
}

func TestBytes(t *testing.T) {
	for _, l := range several() {
		r := row(t, l)
		bytesAre(t, r, written(l)...)
		bytesAre(t, r, written(l)...)
	}
}

// What stands in the bytes is told by them alone, so here they are in full.
func TestBytesInFull(t *testing.T) {
	for _, c := range []struct {
		l    []api.Dropped
		want []byte
	}{
		{nil, []byte{0}},
		{of(4, 3, 5), []byte{2, 8, 6, 10}},
		{of(100, 63, 64), []byte{2, 0xc8, 1, 126, 0x80, 1}},
		{of(4, 3, 5, 0, 1, 7), []byte{4, 8, 6, 10, 0, 2, 14}},
	} {
		got := row(t, c.l).Bytes()
		if len(got) < 4 || !bytes.Equal(got[4:], c.want) {
			t.Fatalf("P13.1: Bytes of %v: %v, want four bytes and %v", c.l, got, c.want)
		}
		if sum := crc32.Checksum(c.want, crc32.MakeTable(crc32.Castagnoli)); binary.LittleEndian.Uint32(got) != sum {
			t.Errorf("P13.1: Bytes of %v: the sum %v, want %#x, its least byte first", c.l, got[:4], sum)
		}
	}
}

func TestExamples(t *testing.T) {
	for _, l := range several() {
		withins(t, row(t, l), 5, 5)
	}
	corrupt(t, "an empty byte string", nil)
	corrupt(t, "an empty byte string", []byte{})
	allAre(t, aborts.Of(nil))
	allAre(t, aborts.Of([]api.Batch{}))
}

func TestReadOfBytes(t *testing.T) {
	for _, l := range several() {
		reads(t, row(t, l).Bytes(), l...)
		reads(t, nums(written(l)...), l...)
	}
}

// What was read goes on as the list that was written does.
func TestReadGoesOn(t *testing.T) {
	for _, l := range several() {
		for _, n := range around(l) {
			x := row(t, l)
			y := reads(t, x.Bytes(), l...)
			withins(t, y, n, most, x.Within(n, most)...)
			withins(t, y, least, n, x.Within(least, n)...)
			for _, d := range of(3, 0, n, 3, n, n+1, 3, 0, n+1, n, 0, api.MaxOffset) {
				if want := x.Add(d); y.Add(d) != want {
					t.Errorf("P13.1: Add(%v) behind Read: %v, want %v", d, !want, want)
				}
				allAre(t, y, x.All()...)
			}
			x, y = row(t, l), reads(t, row(t, l).Bytes(), l...)
			x.Cut(n)
			y.Cut(n)
			allAre(t, y, x.All()...)
			x, y = row(t, l), reads(t, row(t, l).Bytes(), l...)
			x.Start(n)
			y.Start(n)
			allAre(t, y, x.All()...)
			bytesAre(t, y, written(x.All())...)
		}
	}
}

func TestReadOfDamagedBytes(t *testing.T) {
	for _, l := range several() {
		b := nums(written(l)...)
		for n := range b {
			corrupt(t, "bytes that were cut off", b[:n])
			for bit := range 8 {
				c := slices.Clone(b)
				c[n] ^= 1 << bit
				corrupt(t, "bytes with a bit turned", c)
			}
			c := slices.Clone(b)
			c[n] = ^c[n]
			corrupt(t, "bytes with a byte turned", c)
			corrupt(t, "bytes without one of them", slices.Delete(slices.Clone(b), n, n+1))
		}
		corrupt(t, "bytes and one behind them", append(slices.Clone(b), 0))
		corrupt(t, "bytes twice", append(slices.Clone(b), b...))
	}
	for n := range 4 {
		corrupt(t, "fewer than four bytes", make([]byte, n))
	}
	corrupt(t, "four bytes, the sum of none", make([]byte, 4))
}

// With a good sum, bytes that are cut off or have more behind them are still no list's.
func TestReadOfBytesOfAnotherLength(t *testing.T) {
	for _, l := range several() {
		b := plain(written(l)...)
		for n := range b {
			corrupt(t, "bytes that were cut off, with a good sum", summed(b[:n]))
		}
		for _, more := range [][]byte{{0}, {1}, {2}, {0x80}, {0xff}, {0, 0}, {0, 0, 0}, {0x80, 0}, plain(9, 0, api.MaxOffset), b} {
			corrupt(t, "bytes with more behind them, with a good sum", summed(slices.Concat(b, more)))
		}
	}
}

func TestReadOfAWrongNumberOfTransactions(t *testing.T) {
	for _, l := range several() {
		numbers := written(l)
		for _, n := range []int64{least, least + 1, -1 << 32, -2, -1, 0, 1, 2, 3, 4, 5, 6, 7, 8, 15, 21, 1 << 31, 1 << 32, 1<<32 + int64(len(l)), 1 << 62, most - 1, most, -int64(len(l)) - 1} {
			if n == int64(len(l)) {
				continue
			}
			numbers[0] = n
			corrupt(t, "a wrong number of transactions", nums(numbers...))
			if n != 0 {
				corrupt(t, "a number of transactions alone", nums(n))
			}
			corrupt(t, "a wrong number of transactions", nums(append([]int64{n}, numbers...)...))
		}
	}
	// Three times the number, as it goes round, is what stands behind it.
	corrupt(t, "a number whose threefold goes round", nums(append([]int64{-6148914691236517204}, 1, 2, 3, 4)...))
	corrupt(t, "a number whose threefold goes round", nums(6148914691236517206, 4, 5))
	corrupt(t, "a transaction of two numbers", nums(1, 4, 5))
	corrupt(t, "a transaction of one number", nums(1, 4))
	corrupt(t, "a transaction of one number and one of five", nums(2, 4, 5, 6, 7, 8))
	corrupt(t, "a number behind a transaction", nums(1, 4, 5, 6, 7))
	corrupt(t, "two numbers behind a transaction", nums(1, 4, 5, 6, 7, 8))
	corrupt(t, "a transaction behind none", nums(0, 4, 5, 6))
}

func TestReadOfTransactionsThatAddRefuses(t *testing.T) {
	for _, c := range []struct {
		what   string
		place  int
		values []int64
	}{
		{"a wrong producer", 1, []int64{-1, -2, least}},
		{"a wrong First", 2, []int64{-1, -2, 6, 7, api.MaxOffset, most, least}},
		{"a wrong Last", 3, []int64{4, 3, 0, -1, least, 9, 10, api.MaxOffset, api.MaxOffset + 1, most}},
		{"a second, wrong producer", 4, []int64{-1, -2, least}},
		{"a second, wrong First", 5, []int64{-1, -2, 9, 10, api.MaxOffset, most, least}},
		{"a second, wrong Last", 6, []int64{8, 7, 6, 5, 0, -1, least, 12, 13, api.MaxOffset + 1, most}},
		{"a third, wrong producer", 7, []int64{-1, -2, least}},
		{"a third, wrong First", 8, []int64{-1, -2, 12, 13, most, least}},
		{"a third, wrong Last", 9, []int64{9, 8, 1, 0, -1, least, api.MaxOffset + 1, most}},
	} {
		for _, n := range c.values {
			l := written(of(3, 4, 6, 7, 8, 9, 3, 1, 12))
			l[c.place] = n
			corrupt(t, fmt.Sprintf("%s, %d,", c.what, n), nums(l...))
		}
	}
	for _, d := range of(-1, 2, 5, 3, -1, 5, 3, 5, 5, 3, 5, 4, 3, 2, api.MaxOffset+1, 3, most, least) {
		corrupt(t, "one wrong transaction", nums(1, d.Producer, d.First, d.Last))
	}
	for _, l := range several() {
		if len(l) < 2 {
			continue
		}
		for i := range l {
			twice := slices.Insert(slices.Clone(l), i, l[i])
			corrupt(t, "a transaction twice", nums(written(twice)...))
		}
		turned := slices.Clone(l)
		slices.Reverse(turned)
		corrupt(t, "transactions in the other order", nums(written(turned)...))
	}
}

// long returns the encoding of n with as many bytes more than it needs.
func long(n int64, more int) []byte {
	b := binary.AppendVarint(nil, n)
	for range more {
		b[len(b)-1] |= 0x80
		b = append(b, 0)
	}
	return b
}

func TestReadOfNumbersThatAreLongerThanTheyNeedToBe(t *testing.T) {
	for _, l := range several() {
		numbers := written(l)
		for i, n := range numbers {
			for more := 1; more < 12; more++ {
				b := slices.Concat(plain(numbers[:i]...), long(n, more), plain(numbers[i+1:]...))
				corrupt(t, "a number that is longer than it needs to be", summed(b))
			}
			// A number that is greater than an int64 can be.
			great := slices.Concat(plain(numbers[:i]...), bytes.Repeat([]byte{0xff}, 9), []byte{2}, plain(numbers[i+1:]...))
			corrupt(t, "a number that is greater than any", summed(great))
			endless := slices.Concat(plain(numbers[:i]...), bytes.Repeat([]byte{0xff}, 40), plain(numbers[i+1:]...))
			corrupt(t, "a number without an end", summed(endless))
		}
	}
}

// Whatever up to three bytes stand behind a good sum: what is read has them as its Bytes, and the rest is refused.
func TestReadOfEachShortRun(t *testing.T) {
	for a := range 256 {
		shortRun(t, []byte{byte(a)})
		for b := range 256 {
			shortRun(t, []byte{byte(a), byte(b)})
		}
	}
	// A list of one transaction takes four bytes.
	for a := range 8 {
		for b := range 32 {
			for c := range 32 {
				shortRun(t, []byte{2, byte(a), byte(b), byte(c)})
				shortRun(t, []byte{byte(a), 2, byte(b), byte(c)})
			}
		}
	}
}

// shortRun holds Read of b, which a good sum is put ahead of, against the rules for lists of at most one transaction.
func shortRun(t *testing.T, b []byte) {
	t.Helper()
	if len(b) == 1 && b[0] == 0 {
		reads(t, summed(b))
		return
	}
	even := len(b) == 4 && b[0] == 2 && b[1]%2+b[2]%2+b[3]%2 == 0
	if even && b[3] > b[2] {
		reads(t, summed(b), api.Dropped{Producer: int64(b[1] / 2), First: int64(b[2] / 2), Last: int64(b[3] / 2)})
		return
	}
	corrupt(t, "a short run", summed(b))
}

// A great many transactions take no longer than their bytes do.
func TestReadOfAGreatManyTransactions(t *testing.T) {
	var l []api.Dropped
	for i := range int64(200000) {
		l = append(l, api.Dropped{Producer: i % 7, First: i / 2, Last: i + 1})
	}
	b := nums(written(l)...)
	r, why := aborts.Read(b)
	if why != api.OK || !slices.Equal(r.All(), l) || !bytes.Equal(r.Bytes(), b) {
		t.Errorf("P13.1: Read of %d transactions: %d", len(l), int(why))
	}
}
