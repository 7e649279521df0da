package batch

import (
	"bytes"
	"encoding/binary"
	"hash/crc32"
	"math"
	"slices"
	"strings"
	"testing"

	"bordereau/api"
)

// recs returns records with these keys, each with a value made of its key.
func recs(keys ...string) []api.Rec {
	var out []api.Rec
	for _, k := range keys {
		out = append(out, api.Rec{Key: k, Value: "<" + k + ">"})
	}
	return out
}

// same returns n records of which each has the key k and the value v.
func same(n int, k, v string) []api.Rec {
	return slices.Repeat([]api.Rec{{Key: k, Value: v}}, n)
}

// long returns a text of n bytes, no two neighbours of which are the same.
func long(n int) string {
	return strings.Repeat("0123456789abcdef", n/16+1)[:n]
}

// data returns data of a producer.
func data(base, producer int64, epoch int, seq int64, txn bool, l []api.Rec) api.Batch {
	return api.Batch{Base: base, Producer: producer, Epoch: epoch, Seq: seq, Txn: txn, Recs: l}
}

// free returns data of no producer.
func free(base int64, l []api.Rec) api.Batch {
	return data(base, -1, -1, -1, false, l)
}

// marker returns a marker of that kind.
func marker(base, producer int64, epoch, kind int) api.Batch {
	return api.Batch{Base: base, Producer: producer, Epoch: epoch, Seq: -1, Txn: true, Marker: kind}
}

// with returns b changed by f, which may change the records too.
func with(b api.Batch, f func(b *api.Batch)) api.Batch {
	b.Recs = slices.Clone(b.Recs)
	f(&b)
	return b
}

// rights returns valid batches: ordinary ones, and those at the edges of each field.
func rights() []api.Batch {
	const most, top = api.MaxSeq, api.MaxOffset
	greatest := same(api.MaxRecords, long(api.MaxText), long(api.MaxText))
	return []api.Batch{
		data(300, 258, 515, 7, false, recs("key", "世", "")),
		data(300, 258, 515, 7, true, recs("key", "世", "")),
		free(300, recs("key", "\xff\x00")),
		marker(300, 258, 515, api.Commit),
		marker(300, 258, 515, api.Abort),
		data(0, 0, 0, 0, false, same(1, "", "")),
		data(0, 0, 0, 0, true, recs("a")),
		data(1, 1, 1, 1, false, recs("a", "a")),
		data(top, math.MaxInt64, api.MaxEpoch, most, true, greatest),
		data(top-1, math.MaxInt64-1, api.MaxEpoch-1, most-1, false, greatest[1:]),
		free(0, same(1, "", "")),
		free(top, greatest),
		free(7, same(api.MaxRecords, "", "")),
		free(7, same(1, long(api.MaxText), "")),
		free(7, same(1, "", long(api.MaxText))),
		free(7, same(2, long(63), long(1))),
		marker(0, 0, 0, api.Commit),
		marker(0, 0, 0, api.Abort),
		marker(top, math.MaxInt64, api.MaxEpoch, api.Commit),
		marker(top, math.MaxInt64, api.MaxEpoch, api.Abort),
		data(0x0102030405, 0x1112131415161718, 0x2122, 0x31323334, true, recs("abc")),
	}
}

// fault is what makes a batch wrong, and the error that it leads to.
type fault struct {
	name string
	f    func(b *api.Batch)
	want api.Errno
}

// baseFaults are those of every batch.
func baseFaults() []fault {
	var out []fault
	for _, n := range []int64{-1, -2, math.MinInt64, api.MaxOffset + 1, api.MaxOffset + 2, 1 << 41, math.MaxInt64} {
		out = append(out, fault{"base", func(b *api.Batch) { b.Base = n }, api.ErrOverflow})
	}
	return out
}

// ownerFaults are those of every batch that is of a producer.
func ownerFaults() []fault {
	var out []fault
	for _, n := range []int64{-1, -2, math.MinInt64} {
		out = append(out, fault{"producer", func(b *api.Batch) { b.Producer = n }, api.ErrCorrupt})
	}
	for _, n := range []int{-1, -2, math.MinInt, api.MaxEpoch + 1, api.MaxEpoch + 2, 1<<16 - 1, 1 << 16, 1<<32 + 1, math.MaxInt} {
		out = append(out, fault{"epoch", func(b *api.Batch) { b.Epoch = n }, api.ErrCorrupt})
	}
	return out
}

// dataFaults are those of the fields of data of a producer.
func dataFaults() []fault {
	out := append(ownerFaults(), fault{"no records", func(b *api.Batch) { b.Recs = nil }, api.ErrCorrupt})
	for _, n := range []int64{-1, -2, math.MinInt64, api.MaxSeq + 1, api.MaxSeq + 2, 1 << 32, math.MaxInt64} {
		out = append(out, fault{"seq", func(b *api.Batch) { b.Seq = n }, api.ErrCorrupt})
	}
	return out
}

// freeFaults are those of the fields of data of no producer: each gives it something of one.
func freeFaults() []fault {
	out := []fault{
		{"txn", func(b *api.Batch) { b.Txn = true }, api.ErrCorrupt},
		{"no records", func(b *api.Batch) { b.Recs = nil }, api.ErrCorrupt},
	}
	for _, n := range []int64{-2, 0, 1, 5} {
		out = append(out, fault{"producer", func(b *api.Batch) { b.Producer = n }, api.ErrCorrupt})
		out = append(out, fault{"epoch", func(b *api.Batch) { b.Epoch = int(n) }, api.ErrCorrupt})
		out = append(out, fault{"seq", func(b *api.Batch) { b.Seq = n }, api.ErrCorrupt})
	}
	return out
}

// largeFaults are those of the records of data.
func largeFaults() []fault {
	over := long(api.MaxText + 1)
	return []fault{
		{"one record more", func(b *api.Batch) { b.Recs = same(api.MaxRecords+1, "", "") }, api.ErrLarge},
		{"many records", func(b *api.Batch) { b.Recs = same(256+3, "", "") }, api.ErrLarge},
		{"first key", func(b *api.Batch) { b.Recs[0].Key = over }, api.ErrLarge},
		{"first value", func(b *api.Batch) { b.Recs[0].Value = over }, api.ErrLarge},
		{"last key", func(b *api.Batch) { b.Recs[len(b.Recs)-1].Key = over }, api.ErrLarge},
		{"last value", func(b *api.Batch) { b.Recs[len(b.Recs)-1].Value = over }, api.ErrLarge},
		{"much text", func(b *api.Batch) { b.Recs[0].Value = long(256 + 3) }, api.ErrLarge},
		{"text of few runes", func(b *api.Batch) { b.Recs[0].Key = strings.Repeat("世", 22) }, api.ErrLarge},
	}
}

// markerFaults are those of the fields of a marker.
func markerFaults() []fault {
	out := append(ownerFaults(),
		fault{"txn", func(b *api.Batch) { b.Txn = false }, api.ErrCorrupt},
		fault{"a record", func(b *api.Batch) { b.Recs = recs("a") }, api.ErrCorrupt},
		fault{"many records", func(b *api.Batch) { b.Recs = same(20, long(70), long(5000)) }, api.ErrCorrupt})
	for _, n := range []int64{0, 1, -2, api.MaxSeq, math.MaxInt64, math.MinInt64} {
		out = append(out, fault{"seq", func(b *api.Batch) { b.Seq = n }, api.ErrCorrupt})
	}
	for _, n := range []int{-1, -2, 3, 4, 127, 128, 129, 256 + 1, 1<<32 + 2, math.MinInt, math.MaxInt} {
		out = append(out, fault{"marker", func(b *api.Batch) { b.Marker = n }, api.ErrCorrupt})
	}
	return out
}

// subject is a valid batch with what may be made wrong with it.
type subject struct {
	b      api.Batch
	faults []fault
}

// subjects are one batch of each kind.
func subjects() map[string]subject {
	return map[string]subject{
		"data":        {data(9, 3, 2, 7, false, recs("a", "b")), slices.Concat(baseFaults(), dataFaults(), largeFaults())},
		"transaction": {data(9, 3, 2, 7, true, recs("a", "b")), slices.Concat(baseFaults(), dataFaults(), largeFaults())},
		"no producer": {free(9, recs("a", "b")), slices.Concat(baseFaults(), freeFaults(), largeFaults())},
		"commit":      {marker(9, 3, 2, api.Commit), slices.Concat(baseFaults(), markerFaults())},
		"abort":       {marker(9, 3, 2, api.Abort), slices.Concat(baseFaults(), markerFaults())},
	}
}

// wrongs returns batches that are not valid, each for one reason.
func wrongs() []api.Batch {
	out := []api.Batch{{}, {Recs: []api.Rec{}}, {Marker: api.Commit}, {Producer: -1, Epoch: -1, Seq: -1}}
	for _, s := range subjects() {
		for _, x := range s.faults {
			out = append(out, with(s.b, x.f))
		}
	}
	return out
}

// rightIs fails the test unless Right, Bytes and Size of b answer for that error.
func rightIs(t *testing.T, what string, b api.Batch, want api.Errno) {
	t.Helper()
	if got := Right(b); got != want {
		t.Errorf("P6.1: Right of %s: %d, want %d", what, int(got), int(want))
	}
	p, why := Bytes(b)
	if why != want {
		t.Errorf("P6.2: Bytes of %s: error %d, want %d", what, int(why), int(want))
	}
	if (len(p) > 0) != (want == api.OK) {
		t.Errorf("R3: Bytes of %s: %d bytes beside error %d", what, len(p), int(why))
	}
	if n := Size(b); n != len(p) {
		t.Errorf("P6.2: Size of %s: %d, want %d", what, n, len(p))
	}
}

func TestRightOfValidBatches(t *testing.T) {
	for _, b := range rights() {
		rightIs(t, "a valid batch", b, api.OK)
	}
}

func TestRightOfOneFault(t *testing.T) {
	for kind, s := range subjects() {
		rightIs(t, kind, s.b, api.OK)
		for _, x := range s.faults {
			rightIs(t, kind+", "+x.name, with(s.b, x.f), x.want)
		}
	}
}

// Where two errors apply, the chapter's order decides; the numbers of the three errors stand in another one.
func TestRightOfTwoFaults(t *testing.T) {
	rank := map[api.Errno]int{api.ErrOverflow: 1, api.ErrCorrupt: 2, api.ErrLarge: 3}
	for kind, s := range subjects() {
		for _, x := range s.faults {
			for _, y := range s.faults {
				// Two faults of one field would leave the second one alone, and no records have no text that could be long.
				if x.want == y.want || x.name == "no records" || y.name == "no records" {
					continue
				}
				want := x.want
				if rank[y.want] < rank[want] {
					want = y.want
				}
				rightIs(t, kind+", "+x.name+" and "+y.name, with(with(s.b, x.f), y.f), want)
			}
		}
	}
}

func TestRightKnownAnswers(t *testing.T) {
	over := long(65)
	for what, c := range map[string]struct {
		b    api.Batch
		want api.Errno
	}{
		"the zero value":                       {api.Batch{}, api.ErrCorrupt},
		"no records and no producer":           {api.Batch{Producer: -1, Epoch: -1, Seq: -1}, api.ErrCorrupt},
		"everything wrong":                     {api.Batch{Base: -1, Producer: -5, Epoch: -7, Seq: -9, Recs: same(17, over, over)}, api.ErrOverflow},
		"a marker, everything wrong":           {api.Batch{Base: -1, Producer: -5, Epoch: -7, Marker: 9, Recs: same(17, over, over)}, api.ErrOverflow},
		"an epoch of -1 and much text":         {data(0, 3, -1, 0, false, same(17, over, over)), api.ErrCorrupt},
		"a marker with much text":              {with(marker(0, 3, 2, 1), func(b *api.Batch) { b.Recs = same(17, over, over) }), api.ErrCorrupt},
		"a marker like data of no producer":    {api.Batch{Producer: -1, Epoch: -1, Seq: -1, Marker: 1}, api.ErrCorrupt},
		"a marker of no producer":              {api.Batch{Producer: -1, Epoch: -1, Seq: -1, Txn: true, Marker: 2}, api.ErrCorrupt},
		"data like a marker":                   {data(0, 3, 2, -1, true, nil), api.ErrCorrupt},
		"a marker like data":                   {api.Batch{Producer: 3, Epoch: 2, Seq: 7, Txn: true, Marker: 1, Recs: recs("a")}, api.ErrCorrupt},
		"no producer in a transaction":         {data(0, -1, -1, -1, true, recs("a")), api.ErrCorrupt},
		"no producer with an epoch and a seq":  {data(0, -1, 0, 0, false, recs("a")), api.ErrCorrupt},
		"a producer with no epoch and no seq":  {data(0, 0, -1, -1, false, recs("a")), api.ErrCorrupt},
		"sixteen records":                      {data(0, 0, 0, 0, false, same(16, "", "")), api.OK},
		"seventeen records":                    {data(0, 0, 0, 0, false, same(17, "", "")), api.ErrLarge},
		"sixty-four bytes each":                {data(0, 0, 0, 0, false, same(16, over[1:], over[1:])), api.OK},
		"sixty-five bytes in the last one":     {data(0, 0, 0, 0, false, append(same(15, "", ""), api.Rec{Value: over})), api.ErrLarge},
		"a base of 2^40 and a seq of 2^31 - 1": {data(1<<40, 0, 1<<15-1, 1<<31-1, false, recs("a")), api.OK},
		"a base of 2^40 + 1":                   {data(1<<40+1, 0, 0, 0, false, recs("a")), api.ErrOverflow},
		"an epoch of 2^15":                     {data(0, 0, 1<<15, 0, false, recs("a")), api.ErrCorrupt},
		"a seq of 2^31":                        {data(0, 0, 0, 1<<31, false, recs("a")), api.ErrCorrupt},
	} {
		rightIs(t, what, c.b, c.want)
	}
}

// valid tells in another way than the program whether a batch is valid: as one condition, without an order of errors.
func valid(b api.Batch) bool {
	epoch, seq := b.Epoch == min(max(b.Epoch, 0), api.MaxEpoch), b.Seq == min(max(b.Seq, 0), api.MaxSeq)
	short := !slices.ContainsFunc(b.Recs, func(r api.Rec) bool { return max(len(r.Key), len(r.Value)) > 64 })
	fields := false
	switch b.Marker {
	case 0:
		fields = b.Producer > -1 && epoch && seq || b.Producer == -1 && b.Epoch == -1 && b.Seq == -1 && !b.Txn
		fields = fields && short && len(b.Recs) > 0 && len(b.Recs) < 17
	case 1, 2:
		fields = b.Producer > -1 && epoch && b.Seq == -1 && b.Txn && len(b.Recs) == 0
	}
	return fields && b.Base > -1 && b.Base < 1<<40+1
}

func TestRightAgreesInAllCombinations(t *testing.T) {
	lists := [][]api.Rec{nil, {}, recs("a"), same(16, "", long(64)), same(17, "", ""), same(1, long(65), "")}
	for _, base := range []int64{math.MinInt64, -1, 0, 1, 1 << 40, 1<<40 + 1} {
		for _, producer := range []int64{math.MinInt64, -2, -1, 0, math.MaxInt64} {
			for _, epoch := range []int{-2, -1, 0, 1<<15 - 1, 1 << 15, 1<<16 - 1} {
				for _, seq := range []int64{-2, -1, 0, 1<<31 - 1, 1 << 31} {
					for kind := -1; kind < 4; kind++ {
						for _, l := range lists {
							b := api.Batch{Base: base, Producer: producer, Epoch: epoch, Seq: seq, Marker: kind, Recs: l}
							agrees(t, b)
							b.Txn = true
							agrees(t, b)
						}
					}
				}
			}
		}
	}
}

// agrees fails the test unless Right and Size say of b what valid does.
func agrees(t *testing.T, b api.Batch) {
	t.Helper()
	if why := Right(b); (why == api.OK) != valid(b) || (Size(b) > 0) != valid(b) {
		t.Errorf("P6.1: Right of %v: %d, Size: %d", b, int(why), Size(b))
	}
}

// framed returns inner behind its base, its length and its checksum, made in another way than the program: by Go's library.
func framed(base int64, inner []byte) []byte {
	sum := crc32.Checksum(inner, crc32.MakeTable(crc32.Castagnoli))
	p := binary.BigEndian.AppendUint64(nil, uint64(base))
	p = binary.BigEndian.AppendUint32(p, uint32(len(inner)+4))
	return append(binary.LittleEndian.AppendUint32(p, sum), inner...)
}

// told returns what the checksum of b covers, made in another way than the program: by Go's library.
func told(b api.Batch) []byte {
	first := map[bool]byte{false: 0, true: 1}[b.Txn] + byte(b.Marker)<<1
	p := binary.BigEndian.AppendUint64([]byte{first}, uint64(b.Producer))
	p = binary.BigEndian.AppendUint16(p, uint16(b.Epoch))
	p = binary.BigEndian.AppendUint64(p, uint64(b.Seq))
	p = append(p, byte(len(b.Recs)))
	for _, r := range b.Recs {
		p = append(binary.AppendVarint(p, int64(len(r.Key))), r.Key...)
		p = append(binary.AppendVarint(p, int64(len(r.Value))), r.Value...)
	}
	return p
}

// bytesOf returns Bytes of a valid batch.
func bytesOf(t *testing.T, b api.Batch) []byte {
	t.Helper()
	p, why := Bytes(b)
	if why != api.OK {
		t.Fatalf("P6.2: Bytes of %v: error %d", b, int(why))
	}
	return p
}

func TestBytesKnownEncodings(t *testing.T) {
	for _, c := range []struct {
		b                 api.Batch
		base, size, inner string
	}{
		{data(5, 9, 1, 7, true, []api.Rec{{Key: "a", Value: ""}}),
			"\x00\x00\x00\x00\x00\x00\x00\x05", "\x00\x00\x00\x1b",
			"\x01" + "\x00\x00\x00\x00\x00\x00\x00\x09" + "\x00\x01" + "\x00\x00\x00\x00\x00\x00\x00\x07" + "\x01" + "\x02a\x00"},
		{data(1<<40, 258, 515, 1<<31-1, false, []api.Rec{{Key: "", Value: "é"}, {Key: "k", Value: "v"}}),
			"\x00\x00\x01\x00\x00\x00\x00\x00", "\x00\x00\x00\x20",
			"\x00" + "\x00\x00\x00\x00\x00\x00\x01\x02" + "\x02\x03" + "\x00\x00\x00\x00\x7f\xff\xff\xff" + "\x02" + "\x00\x04é" + "\x02k\x02v"},
		{free(0, []api.Rec{{Key: "", Value: ""}}),
			"\x00\x00\x00\x00\x00\x00\x00\x00", "\x00\x00\x00\x1a",
			"\x00" + "\xff\xff\xff\xff\xff\xff\xff\xff" + "\xff\xff" + "\xff\xff\xff\xff\xff\xff\xff\xff" + "\x01" + "\x00\x00"},
		{marker(1, 2, 3, api.Commit),
			"\x00\x00\x00\x00\x00\x00\x00\x01", "\x00\x00\x00\x18",
			"\x03" + "\x00\x00\x00\x00\x00\x00\x00\x02" + "\x00\x03" + "\xff\xff\xff\xff\xff\xff\xff\xff" + "\x00"},
		{marker(1, 2, api.MaxEpoch, api.Abort),
			"\x00\x00\x00\x00\x00\x00\x00\x01", "\x00\x00\x00\x18",
			"\x05" + "\x00\x00\x00\x00\x00\x00\x00\x02" + "\x7f\xff" + "\xff\xff\xff\xff\xff\xff\xff\xff" + "\x00"},
	} {
		p := bytesOf(t, c.b)
		if len(p) != 16+len(c.inner) || string(p[:12]) != c.base+c.size || string(p[16:]) != c.inner {
			t.Errorf("P6.2: Bytes of %v: %x", c.b, p)
		}
		if !bytes.Equal(p, framed(c.b.Base, []byte(c.inner))) {
			t.Errorf("P6.2: Bytes of %v: the checksum is %x", c.b, p[12:16])
		}
	}
}

func TestBytesAgreeWithTheLibrary(t *testing.T) {
	for _, b := range rights() {
		p, want := bytesOf(t, b), framed(b.Base, told(b))
		if !bytes.Equal(p, want) {
			t.Errorf("P6.2: Bytes of %v: %x, want %x", b, p, want)
		}
		if Size(b) != len(want) {
			t.Errorf("P6.2: Size of %v: %d, want %d", b, Size(b), len(want))
		}
	}
}

func TestSizeKnownNumbers(t *testing.T) {
	for _, c := range []struct {
		b    api.Batch
		want int
	}{
		{marker(0, 0, 0, api.Commit), 36},
		{marker(1<<40, math.MaxInt64, api.MaxEpoch, api.Abort), 36},
		{free(0, same(1, "", "")), 38},
		{free(0, same(1, "ab", "c")), 41},
		{free(0, same(16, "", "")), 68},
		{free(0, same(1, long(63), "")), 101},
		{free(0, same(1, long(64), "")), 103},
		{data(0, 0, 0, 0, true, same(16, long(64), long(64))), 2148},
		{api.Batch{}, 0},
		{data(-1, 0, 0, 0, true, recs("a")), 0},
		{data(0, 0, 0, 0, true, same(1, long(65), "")), 0},
		{marker(0, 0, 0, 3), 0},
	} {
		if n := Size(c.b); n != c.want {
			t.Errorf("P6.2: Size of %v: %d, want %d", c.b, n, c.want)
		}
	}
}

// No valid batch is longer than the greatest of rights, so ErrLarge for too long an encoding has no batch to be seen on.
func TestTheLongestBatchFits(t *testing.T) {
	longest := 0
	for _, b := range rights() {
		longest = max(longest, Size(b))
	}
	if longest != 2148 || longest > api.MaxBatch {
		t.Errorf("P6.1: the longest encoding has %d bytes", longest)
	}
}

func TestCount(t *testing.T) {
	for n := range 40 {
		l := same(n, "k", "v")
		for _, b := range []api.Batch{free(5, l), data(5, 0, 0, 0, false, l), data(-1, -7, -7, -7, true, l)} {
			if got := Count(b); got != n {
				t.Errorf("P6.2: Count of %d records: %d", n, got)
			}
		}
		for _, kind := range []int{api.Commit, api.Abort, 3, -1, math.MinInt, math.MaxInt} {
			b := marker(5, 0, 0, kind)
			b.Recs = l
			if got := Count(b); got != 1 {
				t.Errorf("P6.2: Count of a marker with %d records: %d", n, got)
			}
		}
	}
}

// sameIs fails the test unless Same answers want, whichever of both comes first.
func sameIs(t *testing.T, a, b api.Batch, want bool) {
	t.Helper()
	if Same(a, b) != want || Same(b, a) != want {
		t.Errorf("P6.2: Same of %v and %v: not %v", a, b, want)
	}
}

func TestSameOfEachField(t *testing.T) {
	for _, b := range append(rights(), wrongs()...) {
		sameIs(t, b, with(b, func(*api.Batch) {}), true)
		for _, f := range []func(b *api.Batch){
			func(b *api.Batch) { b.Base++ },
			func(b *api.Batch) { b.Base ^= 1 << 62 },
			func(b *api.Batch) { b.Producer++ },
			func(b *api.Batch) { b.Producer ^= 1 << 62 },
			func(b *api.Batch) { b.Epoch++ },
			func(b *api.Batch) { b.Epoch += 1 << 16 },
			func(b *api.Batch) { b.Seq++ },
			func(b *api.Batch) { b.Seq ^= 1 << 62 },
			func(b *api.Batch) { b.Txn = !b.Txn },
			func(b *api.Batch) { b.Marker++ },
			func(b *api.Batch) { b.Marker += 1 << 8 },
			func(b *api.Batch) { b.Recs = append(b.Recs, api.Rec{}) },
		} {
			sameIs(t, b, with(b, f), false)
		}
	}
}

func TestSameOfEachRecord(t *testing.T) {
	b := data(300, 258, 515, 7, true, recs("a", "b", "c"))
	for i := range b.Recs {
		sameIs(t, b, with(b, func(b *api.Batch) { b.Recs[i].Key = "x" }), false)
		sameIs(t, b, with(b, func(b *api.Batch) { b.Recs[i].Value = "" }), false)
		sameIs(t, b, with(b, func(b *api.Batch) { b.Recs = b.Recs[:i] }), false)
		sameIs(t, b, with(b, func(b *api.Batch) { b.Recs = slices.Delete(b.Recs, i, i+1) }), false)
		sameIs(t, b, with(b, func(b *api.Batch) { b.Recs[i].Key, b.Recs[i].Value = b.Recs[i].Value, b.Recs[i].Key }), false)
	}
	sameIs(t, b, with(b, func(b *api.Batch) { slices.Reverse(b.Recs) }), false)
	// The texts are held against each other one by one, not as what they make together.
	sameIs(t, free(0, []api.Rec{{Key: "ab", Value: "c"}}), free(0, []api.Rec{{Key: "a", Value: "bc"}}), false)
	// All records count, also those behind the greatest number that a valid batch has.
	sameIs(t, free(0, same(30, "", "")), free(0, append(same(29, "", ""), api.Rec{Key: "x"})), false)
}

func TestSameOfNoRecords(t *testing.T) {
	sameIs(t, api.Batch{}, api.Batch{Recs: []api.Rec{}}, true)
	sameIs(t, api.Batch{}, api.Batch{Recs: recs("a", "b")[:0]}, true)
	sameIs(t, api.Batch{}, api.Batch{Recs: []api.Rec{{}}}, false)
}
