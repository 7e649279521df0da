package snapshot_test

import (
	"bytes"
	"encoding/binary"
	"hash/crc32"
	"math"
	"slices"
	"testing"

	"bordereau/api"
	"bordereau/producer"
	"bordereau/snapshot"
	"bordereau/table"
)

// data returns data of a producer with that many records.
func data(base, id int64, epoch int, seq int64, txn bool, records int) api.Batch {
	return api.Batch{Base: base, Producer: id, Epoch: epoch, Seq: seq, Txn: txn, Recs: make([]api.Rec, records)}
}

// free returns data of no producer.
func free(base int64, records int) api.Batch {
	return data(base, -1, -1, -1, false, records)
}

// marker returns a marker of that kind.
func marker(base, id int64, epoch, kind int) api.Batch {
	return api.Batch{Base: base, Producer: id, Epoch: epoch, Seq: -1, Txn: true, Marker: kind}
}

// state returns the state of a producer.
func state(id int64, epoch int, open int64, l ...[3]int64) api.Producer {
	return api.Producer{ID: id, Epoch: epoch, Last: l, Open: open}
}

// plain returns numbers as bytes, by Go's own library, which writes them in the same way.
func plain(l ...int64) []byte {
	var b []byte
	for _, n := range l {
		b = binary.AppendVarint(b, n)
	}
	return b
}

// summed returns b behind its checksum, by Go's own library.
func summed(b []byte) []byte {
	sum := crc32.Checksum(b, crc32.MakeTable(crc32.Castagnoli))
	return append(binary.LittleEndian.AppendUint32(nil, sum), b...)
}

// nums returns numbers as bytes behind their checksum.
func nums(l ...int64) []byte {
	return summed(plain(l...))
}

// written returns the numbers of at and of states, in the chapter's order.
func written(at int64, states []api.Producer) []int64 {
	l := []int64{at, int64(len(states))}
	for _, p := range states {
		l = append(l, p.ID, int64(p.Epoch), p.Open, int64(len(p.Last)))
		for _, e := range p.Last {
			l = append(l, e[0], e[1], e[2])
		}
	}
	return l
}

// bytesAre fails the test unless Bytes of x and at are these numbers.
func bytesAre(t *testing.T, x *table.Table, at int64, want ...int64) {
	t.Helper()
	if got := snapshot.Bytes(x, at); !bytes.Equal(got, nums(want...)) {
		t.Errorf("P12.1: Bytes of %v and %d: %v, want those of %v", x.All(), at, got, want)
	}
}

// reads fails the test unless Read of b answers a table of these states, at and OK, and Bytes of them are b.
func reads(t *testing.T, b []byte, at int64, want ...api.Producer) *table.Table {
	t.Helper()
	x, got, why := snapshot.Read(b)
	if why != api.OK || x == nil || got != at {
		t.Fatalf("P12.1: Read of the numbers of %v: %v, %d, %d, want %d, 0", want, x, got, int(why), at)
	}
	if all := x.All(); !slices.EqualFunc(all, want, producer.Same) {
		t.Errorf("P12.1: Read: %v, want %v", all, want)
	}
	if again := snapshot.Bytes(x, got); !bytes.Equal(again, b) {
		t.Errorf("P12.1: Bytes of what was read: %v, want %v", again, b)
	}
	return x
}

// corrupt fails the test unless Read of b answers nil, 0 and ErrCorrupt.
func corrupt(t *testing.T, what string, b []byte) {
	t.Helper()
	if x, at, why := snapshot.Read(b); x != nil || at != 0 || why != api.ErrCorrupt {
		t.Errorf("P12.1: Read of %s, %v: %v, %d, %d, want nil, 0, 12", what, b, x, at, int(why))
	}
}

// row is a list of batches, a number, and the numbers of the snapshot behind all of them.
type row struct {
	l    []api.Batch
	at   int64
	want []int64
}

// rows are tables of no producer, of one and of several, of whom each state is valid.
func rows() []row {
	six := make([]api.Batch, 6)
	open := make([]api.Batch, 6)
	for i := range six {
		n := int64(i)
		six[i] = data(10*n, 4, 3, 2*n, false, 2)
		open[i] = data(10*n, 4, 3, 2*n, true, 2)
	}
	return []row{
		{nil, 7, []int64{7, 0}},
		{[]api.Batch{free(0, 3), {}}, 3, []int64{3, 0}},
		// One producer, with none to five latest batches, and behind six.
		{[]api.Batch{marker(0, 4, 3, api.Commit)}, 0, []int64{0, 1, 4, 3, -1, 0}},
		{[]api.Batch{marker(9, 0, 0, api.Abort)}, 0, []int64{0, 1, 0, 0, -1, 0}},
		{six[:1], 1, []int64{1, 1, 4, 3, -1, 1, 0, 1, 0}},
		{six[:2], 2, []int64{2, 1, 4, 3, -1, 2, 0, 1, 0, 2, 3, 10}},
		{six[:3], 3, []int64{3, 1, 4, 3, -1, 3, 0, 1, 0, 2, 3, 10, 4, 5, 20}},
		{six[:4], 4, []int64{4, 1, 4, 3, -1, 4, 0, 1, 0, 2, 3, 10, 4, 5, 20, 6, 7, 30}},
		{six[:5], 5, []int64{5, 1, 4, 3, -1, 5, 0, 1, 0, 2, 3, 10, 4, 5, 20, 6, 7, 30, 8, 9, 40}},
		{six, 6, []int64{6, 1, 4, 3, -1, 5, 2, 3, 10, 4, 5, 20, 6, 7, 30, 8, 9, 40, 10, 11, 50}},
		// With an open transaction, also where the batch that began it is not among the latest ones.
		{open[:1], 1, []int64{1, 1, 4, 3, 0, 1, 0, 1, 0}},
		{open[:2], 2, []int64{2, 1, 4, 3, 0, 2, 0, 1, 0, 2, 3, 10}},
		{open[:5], 5, []int64{5, 1, 4, 3, 0, 5, 0, 1, 0, 2, 3, 10, 4, 5, 20, 6, 7, 30, 8, 9, 40}},
		{open, 6, []int64{6, 1, 4, 3, 0, 5, 2, 3, 10, 4, 5, 20, 6, 7, 30, 8, 9, 40, 10, 11, 50}},
		{open[1:], 6, []int64{6, 1, 4, 3, 10, 5, 2, 3, 10, 4, 5, 20, 6, 7, 30, 8, 9, 40, 10, 11, 50}},
		{[]api.Batch{six[0], open[1]}, 99, []int64{99, 1, 4, 3, 10, 2, 0, 1, 0, 2, 3, 10}},
		{[]api.Batch{six[0], open[1], open[2]}, 99, []int64{99, 1, 4, 3, 10, 3, 0, 1, 0, 2, 3, 10, 4, 5, 20}},
		{[]api.Batch{open[0], marker(3, 4, 3, api.Commit), open[1]}, 99, []int64{99, 1, 4, 3, 10, 2, 0, 1, 0, 2, 3, 10}},
		// Behind a marker, and in another epoch.
		{[]api.Batch{open[0], open[1], marker(12, 4, 3, api.Abort)}, 50, []int64{50, 1, 4, 3, -1, 2, 0, 1, 0, 2, 3, 10}},
		{[]api.Batch{open[0], marker(2, 4, 4, api.Abort)}, 50, []int64{50, 1, 4, 4, -1, 0}},
		{[]api.Batch{open[0], data(60, 4, 2, 0, false, 1)}, 61, []int64{61, 1, 4, 2, 0, 1, 0, 0, 60}},
		// The numbers' ends.
		{[]api.Batch{data(api.MaxOffset, math.MaxInt64, api.MaxEpoch, api.MaxSeq, true, 16)}, api.MaxOffset, []int64{api.MaxOffset, 1, math.MaxInt64, api.MaxEpoch, api.MaxOffset, 1, api.MaxSeq, 14, api.MaxOffset}},
		{[]api.Batch{data(0, 0, 0, 0, true, 1)}, 0, []int64{0, 1, 0, 0, 0, 1, 0, 0, 0}},
		// Several, in ascending order of their IDs.
		{[]api.Batch{data(3, 9, 1, 7, true, 2), data(5, 2, 0, 0, false, 1), data(6, 9, 1, 9, true, 1), marker(7, 300, 5, api.Commit), free(8, 2)}, 77,
			[]int64{77, 3, 2, 0, -1, 1, 0, 0, 5, 9, 1, 3, 2, 7, 8, 3, 9, 9, 6, 300, 5, -1, 0}},
		{[]api.Batch{data(0, 1, 0, 0, true, 1), data(1, 0, 0, 0, true, 1)}, 2, []int64{2, 2, 0, 0, 1, 1, 0, 0, 1, 1, 0, 0, 1, 0, 0, 0}},
	}
}

func TestBytes(t *testing.T) {
	for _, r := range rows() {
		bytesAre(t, table.Fold(r.l), r.at, r.want...)
	}
}

// What stands in the bytes is told by them alone, so here they are in full.
func TestBytesInFull(t *testing.T) {
	for _, c := range []struct {
		x    *table.Table
		at   int64
		want []byte
	}{
		{table.New(), 0, []byte{0, 0}},
		{table.New(), 7, []byte{14, 0}},
		{table.New(), 64, []byte{0x80, 1, 0}},
		{table.New(), -1, []byte{1, 0}},
		{table.Fold([]api.Batch{data(100, 4, 3, 5, true, 2)}), 102, []byte{0xcc, 1, 2, 8, 6, 0xc8, 1, 2, 10, 12, 0xc8, 1}},
		{table.Fold([]api.Batch{marker(0, 4, 3, api.Commit)}), 1, []byte{2, 2, 8, 6, 1, 0}},
	} {
		got := snapshot.Bytes(c.x, c.at)
		if len(got) < 4 || !bytes.Equal(got[4:], c.want) {
			t.Fatalf("P12.1: Bytes of %v and %d: %v, want four bytes and %v", c.x.All(), c.at, got, c.want)
		}
		if sum := crc32.Checksum(c.want, crc32.MakeTable(crc32.Castagnoli)); binary.LittleEndian.Uint32(got) != sum {
			t.Errorf("P12.1: Bytes of %v and %d: the sum %v, want %#x, its least byte first", c.x.All(), c.at, got[:4], sum)
		}
	}
}

func TestExamples(t *testing.T) {
	reads(t, snapshot.Bytes(table.New(), 7), 7)
	corrupt(t, "an empty byte string", nil)
	corrupt(t, "an empty byte string", []byte{})
	if s, ok := snapshot.Latest(nil, 5); s != "" || ok {
		t.Errorf("P12.1: Latest of no names: %q, %v", s, ok)
	}
}

func TestReadOfBytes(t *testing.T) {
	for _, r := range rows() {
		x := table.Fold(r.l)
		y := reads(t, snapshot.Bytes(x, r.at), r.at, x.All()...)
		wantAt, want := x.Open()
		if at, ok := y.Open(); at != wantAt || ok != want {
			t.Errorf("P12.1: Open of what was read: %d, %v, want %d, %v", at, ok, wantAt, want)
		}
		for _, p := range x.All() {
			if got, ok := y.Get(p.ID); !ok || !producer.Same(got, p) {
				t.Errorf("P12.1: Get(%d) of what was read: %v, %v, want %v", p.ID, got, ok, p)
			}
		}
		if got, ok := y.Get(5); ok {
			t.Errorf("P12.1: Get of a producer that is not known: %v", got)
		}
	}
}

// The number is not asked of Bytes, and for each that an offset can be it comes back.
func TestNumber(t *testing.T) {
	some := table.Fold([]api.Batch{data(3, 4, 3, 5, true, 2), marker(9, 6, 1, api.Abort)})
	for _, x := range []*table.Table{table.New(), some} {
		for _, at := range []int64{0, 1, 63, 64, 1 << 33, api.MaxOffset - 1, api.MaxOffset} {
			bytesAre(t, x, at, written(at, x.All())...)
			reads(t, snapshot.Bytes(x, at), at, x.All()...)
		}
		for _, at := range []int64{-1, -2, math.MinInt64, api.MaxOffset + 1, 1 << 41, math.MaxInt64} {
			bytesAre(t, x, at, written(at, x.All())...)
			corrupt(t, "a number that is no offset", snapshot.Bytes(x, at))
		}
	}
}

func TestBytesOfNoTable(t *testing.T) {
	for _, at := range []int64{0, 5, -1, api.MaxOffset, math.MinInt64, math.MaxInt64} {
		if got := snapshot.Bytes(nil, at); len(got) != 0 {
			t.Errorf("R1: Bytes of nil and %d: %v", at, got)
		}
	}
}

// A table may hold what Check would have refused: its Bytes tell that, and Read does not take it.
func TestBytesOfStatesThatAreNotValid(t *testing.T) {
	for _, l := range [][]api.Batch{
		{data(0, 4, 3, 5, false, 1), data(1, 4, 3, 5, false, 1)},
		{data(0, 4, 3, 5, false, 1), data(1, 4, 3, 7, false, 1)},
		{data(7, 4, 3, 5, false, 1), data(7, 4, 3, 6, false, 1)},
		{data(7, 4, 3, 5, true, 1), data(6, 4, 3, 6, true, 1)},
		{data(0, 1, 0, 0, false, 1), data(0, 4, 3, 5, false, 1), data(0, 4, 3, 6, false, 1), data(0, 9, 0, 0, false, 1)},
	} {
		x := table.Fold(l)
		bytesAre(t, x, 9, written(9, x.All())...)
		corrupt(t, "a state that is not valid", snapshot.Bytes(x, 9))
	}
}

// The order in which a map is gone through is another one each time; the bytes are not.
func TestManyProducers(t *testing.T) {
	x, y := table.New(), table.New()
	add := func(z *table.Table, id int64) { z.Apply(data(1000+id, id, 2, 9, id%2 == 0, 3)) }
	var want []api.Producer
	for id := range int64(600) {
		// 7 has no divisor in common with 600, so each ID comes once.
		add(x, id*7%600)
		add(y, 599-id)
		open := int64(-1)
		if id%2 == 0 {
			open = 1000 + id
		}
		want = append(want, state(id, 2, open, [3]int64{9, 11, 1000 + id}))
	}
	for range 20 {
		bytesAre(t, x, 5, written(5, want)...)
		bytesAre(t, y, 5, written(5, want)...)
	}
	z := reads(t, snapshot.Bytes(x, 5), 5, want...)
	bytesAre(t, z, 6, written(6, want)...)
}

// fill overwrites all bytes of b and its spare capacity.
func fill(b []byte) {
	b = b[:cap(b)]
	for i := range b {
		b[i] = 0xa5
	}
}

func TestBytesAreNewMemory(t *testing.T) {
	for _, r := range rows() {
		x := table.Fold(r.l)
		was := x.All()
		one, two := snapshot.Bytes(x, r.at), snapshot.Bytes(x, r.at)
		fill(one)
		if !bytes.Equal(two, nums(r.want...)) {
			t.Errorf("R2: a change of what Bytes returned reaches another result: %v", two)
		}
		fill(two)
		bytesAre(t, x, r.at, r.want...)
		if got := x.All(); !slices.EqualFunc(got, was, producer.Same) {
			t.Errorf("R2: Bytes changed the table: %v, want %v", got, was)
		}
	}
}

// What was written stays as it is while the table goes on.
func TestBytesStayAsTheyAre(t *testing.T) {
	x := table.Fold([]api.Batch{data(0, 4, 3, 5, true, 2)})
	b := snapshot.Bytes(x, 2)
	x.Apply(data(2, 4, 3, 7, true, 2))
	x.Apply(data(4, 1, 0, 0, false, 1))
	if !bytes.Equal(b, nums(2, 1, 4, 3, 0, 1, 5, 6, 0)) {
		t.Errorf("R2: Apply changed what Bytes had returned: %v", b)
	}
	bytesAre(t, x, 5, 5, 2, 1, 0, -1, 1, 0, 0, 4, 4, 3, 0, 2, 5, 6, 0, 7, 8, 2)
}
