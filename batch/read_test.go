package batch

import (
	"bytes"
	"encoding/binary"
	"math"
	"slices"
	"testing"

	"bordereau/api"
)

// equal reports in another way than Same whether all fields are equal: lists that are nil and empty ones count as one.
func equal(a, b api.Batch) bool {
	l, m := a.Recs, b.Recs
	a.Recs, b.Recs = nil, nil
	return slices.Equal(l, m) && a.Base == b.Base && a.Producer == b.Producer && a.Epoch == b.Epoch &&
		a.Seq == b.Seq && a.Txn == b.Txn && a.Marker == b.Marker
}

// readsAs fails the test unless Read answers b and n bytes.
func readsAs(t *testing.T, what string, p []byte, b api.Batch, n int) {
	t.Helper()
	got, k, why := Read(p)
	if why != api.OK || k != n || !equal(got, b) {
		t.Errorf("P6.2: Read of %s, %x: %v, %d, error %d, want %v, %d", what, p, got, k, int(why), b, n)
	}
}

// refuses fails the test unless Read answers that error and nothing beside it.
func refuses(t *testing.T, what string, p []byte, want api.Errno) {
	t.Helper()
	b, n, why := Read(p)
	if why != want {
		t.Errorf("P6.2: Read of %s, %x: error %d, want %d", what, p, int(why), int(want))
	}
	if n != 0 || len(b.Recs) > 0 || !equal(b, api.Batch{}) {
		t.Errorf("R3: Read of %s, %x: %v, %d beside an error", what, p, b, n)
	}
}

func TestReadOfBytes(t *testing.T) {
	for _, b := range rights() {
		p := bytesOf(t, b)
		got, n, why := Read(p)
		if why != api.OK || n != len(p) || !equal(got, b) || !Same(got, b) {
			t.Errorf("P6.3: Read of Bytes of %v: %v, %d, error %d", b, got, n, int(why))
		}
		readsAs(t, "what the library framed", framed(b.Base, told(b)), b, len(p))
	}
}

func TestReadLeavesWhatIsBehind(t *testing.T) {
	for _, b := range rights() {
		p := bytesOf(t, b)
		for _, behind := range []string{"\x00", "\xff", "\x00\x00\x00\x00", "more bytes than a head has", string(p)} {
			readsAs(t, "a batch and more", append(bytes.Clone(p), behind...), b, len(p))
		}
		readsAs(t, "a batch and more than MaxBatch bytes", append(bytes.Clone(p), make([]byte, 2*api.MaxBatch)...), b, len(p))
	}
}

func TestReadOfSeveral(t *testing.T) {
	var p []byte
	for _, b := range rights() {
		p = append(p, bytesOf(t, b)...)
	}
	for _, b := range rights() {
		got, n, why := Read(p)
		if why != api.OK || n != Size(b) || !equal(got, b) {
			t.Fatalf("P6.2: Read of several, at %v: %v, %d, error %d", b, got, n, int(why))
		}
		p = p[n:]
	}
	refuses(t, "what is behind the last one", p, api.ErrCorrupt)
}

func TestReadRefusesCut(t *testing.T) {
	refuses(t, "nil", nil, api.ErrCorrupt)
	refuses(t, "an empty byte string", []byte{}, api.ErrCorrupt)
	for _, b := range rights() {
		p := bytesOf(t, b)
		for n := range p {
			refuses(t, "a cut batch", bytes.Clone(p[:n]), api.ErrCorrupt)
			// The missing bytes stand in the spare capacity, which is not to be read.
			refuses(t, "a batch that spare capacity completes", p[:n], api.ErrCorrupt)
		}
		for n := 1; n < len(p); n++ {
			if _, _, why := Read(p[n:]); why != api.ErrCorrupt && why != api.ErrLarge {
				t.Errorf("P6.2: Read of %v without its first %d bytes: error %d", b, n, int(why))
			}
		}
	}
}

// turnedIs fails the test unless Read of p, of which byte i of the encoding of b was changed, answers what the chapter's words lead to.
func turnedIs(t *testing.T, p []byte, i int, b api.Batch) {
	t.Helper()
	size := binary.BigEndian.Uint32(p[8:])
	base := int64(binary.BigEndian.Uint64(p))
	switch {
	case size > api.MaxBatch-12:
		refuses(t, "a greater length", p, api.ErrLarge)
	case i >= 8 || base < 0 || base > api.MaxOffset:
		refuses(t, "a changed byte", p, api.ErrCorrupt)
	default:
		// The checksum does not cover the base.
		b.Base = base
		readsAs(t, "another base", p, b, len(p))
	}
}

func TestReadOfTurnedBytes(t *testing.T) {
	for _, b := range rights() {
		p := bytesOf(t, b)
		for i := range p {
			for bit := range 8 {
				x := bytes.Clone(p)
				x[i] ^= 1 << bit
				turnedIs(t, x, i, b)
			}
			x := bytes.Clone(p)
			x[i] = ^x[i]
			turnedIs(t, x, i, b)
		}
	}
}

func TestReadOfEveryByte(t *testing.T) {
	b := data(300, 258, 515, 7, true, recs("key", "世"))
	p := bytesOf(t, b)
	for i := range p {
		for turn := 1; turn < 256; turn++ {
			x := bytes.Clone(p)
			x[i] ^= byte(turn)
			turnedIs(t, x, i, b)
			// The bytes that a greater length asks for are there too.
			if i >= 8 {
				turnedIs(t, append(x, make([]byte, 5000)...), i, b)
			}
		}
	}
}

// head returns a base of 5 and that length.
func head(size uint32) []byte {
	return binary.BigEndian.AppendUint32(binary.BigEndian.AppendUint64(nil, 5), size)
}

func TestReadOfLengths(t *testing.T) {
	rest := bytes.Repeat([]byte{0}, 2*api.MaxBatch)
	for _, size := range []uint32{0, 1, 3, 4, 5, 23, 24, 25, 100, 2136, 2137, 4083, 4084} {
		refuses(t, "a length alone", head(size), api.ErrCorrupt)
		refuses(t, "a length and zeros", append(head(size), rest...), api.ErrCorrupt)
	}
	for _, size := range []uint32{4085, 4086, 4096, 4097, 1 << 13, 1 << 16, 1<<24 + 27, 1<<31 - 1, 1 << 31, 1<<31 + 27, 1<<32 - 12, 1<<32 - 1} {
		refuses(t, "a length alone", head(size), api.ErrLarge)
		refuses(t, "a length and zeros", append(head(size), rest...), api.ErrLarge)
	}
	for n := range 12 {
		refuses(t, "part of a head that means too much", head(1<<32 - 1)[:n], api.ErrCorrupt)
	}
}

// With a right checksum: too long an encoding is told by its length, a shorter one by what it says.
func TestReadOfLongBodies(t *testing.T) {
	for n, want := range map[int]api.Errno{
		api.MaxBatch - 17: api.ErrCorrupt, api.MaxBatch - 16: api.ErrCorrupt,
		api.MaxBatch - 15: api.ErrLarge, api.MaxBatch: api.ErrLarge, 3 * api.MaxBatch: api.ErrLarge,
	} {
		refuses(t, "zeros with their checksum", framed(5, make([]byte, n)), want)
		inner := told(free(5, same(200, long(9), "")))
		refuses(t, "many records", framed(5, append(inner, make([]byte, n)...)[:n]), want)
	}
	b := with(free(-1, same(17, long(65), long(65))), func(b *api.Batch) { b.Base = -1 })
	refuses(t, "ahead of everything else", framed(b.Base, append(told(b), make([]byte, api.MaxBatch)...)), api.ErrLarge)
}

// The encodings that the words of Bytes would give to batches that are not valid are ErrCorrupt, whatever Right says of them.
func TestReadRefusesWrongBatches(t *testing.T) {
	for _, b := range wrongs() {
		// Some faults don't show in the bytes, since a field takes fewer than the number has.
		short := b.Epoch == int(int16(b.Epoch)) && b.Marker == int(byte(b.Marker)&127) && len(b.Recs) < 256
		p := framed(b.Base, told(b))
		if short && len(p) <= api.MaxBatch {
			refuses(t, "a wrong batch", p, api.ErrCorrupt)
		}
	}
	for _, base := range []int64{-1, math.MinInt64, api.MaxOffset + 1, math.MaxInt64} {
		for _, b := range rights() {
			refuses(t, "a base out of range", framed(base, told(b)), api.ErrCorrupt)
		}
	}
}

// decoded reads p in another way than the program: as loosely as can be, and it counts if that is valid and written so.
func decoded(p []byte) (api.Batch, bool) {
	if len(p) < 36 {
		return api.Batch{}, false
	}
	in := p[16:]
	b := api.Batch{Base: int64(binary.BigEndian.Uint64(p)), Txn: in[0]%2 == 1, Marker: int(in[0]) / 2}
	b.Producer, b.Seq = int64(binary.BigEndian.Uint64(in[1:])), int64(binary.BigEndian.Uint64(in[11:]))
	if b.Epoch = int(binary.BigEndian.Uint16(in[9:])); b.Epoch == 1<<16-1 {
		b.Epoch = -1
	}
	var texts []string
	rest := in[20:]
	for range 2 * int(in[19]) {
		n, k := binary.Varint(rest)
		if k <= 0 || n < 0 || n > int64(len(rest)-k) {
			return api.Batch{}, false
		}
		texts = append(texts, string(rest[k:k+int(n)]))
		rest = rest[k+int(n):]
	}
	for l := range slices.Chunk(texts, 2) {
		b.Recs = append(b.Recs, api.Rec{Key: l[0], Value: l[1]})
	}
	return b, valid(b) && bytes.Equal(framed(b.Base, told(b)), p)
}

// readAgrees fails the test unless Read of inner, framed, answers what decoded does, and Bytes writes what Read accepts.
func readAgrees(t *testing.T, base int64, inner []byte) {
	t.Helper()
	p := framed(base, inner)
	b, ok := decoded(p)
	if !ok {
		refuses(t, "a changed body with its checksum", p, api.ErrCorrupt)
		return
	}
	readsAs(t, "a changed body with its checksum", p, b, len(p))
	if q, why := Bytes(b); why != api.OK || !bytes.Equal(p, q) {
		t.Errorf("P6.2: Read accepts %x, Bytes writes %x", p, q)
	}
}

// Each byte behind the checksum takes each value, the checksum being made anew: what is left to refuse is what the bytes say.
func TestReadAgreesOnChangedBodies(t *testing.T) {
	for _, b := range []api.Batch{
		data(5, 9, 1, 7, true, recs("a", "")),
		data(5, 0, api.MaxEpoch, api.MaxSeq, false, same(1, long(64), "")),
		free(5, recs("", "\x00\x00")),
		marker(5, 9, 1, api.Commit),
		marker(5, 9, 1, api.Abort),
	} {
		inner := told(b)
		for i := range inner {
			for x := range 256 {
				other := bytes.Clone(inner)
				other[i] = byte(x)
				readAgrees(t, 5, other)
			}
			readAgrees(t, 5, inner[:i])
			readAgrees(t, 5, slices.Delete(bytes.Clone(inner), i, i+1))
			readAgrees(t, 5, slices.Insert(bytes.Clone(inner), i, 0))
			readAgrees(t, 5, append(bytes.Clone(inner), inner[i:]...))
		}
	}
}

func TestReadAgreesOnEveryEpoch(t *testing.T) {
	for n := range 1 << 16 {
		for _, b := range []api.Batch{data(5, 9, 1, 7, true, recs("a")), marker(5, 9, 1, api.Commit)} {
			inner := told(b)
			binary.BigEndian.PutUint16(inner[9:], uint16(n))
			p := framed(5, inner)
			if n > api.MaxEpoch {
				refuses(t, "an epoch out of range", p, api.ErrCorrupt)
				continue
			}
			b.Epoch = n
			readsAs(t, "an epoch", p, b, len(p))
		}
	}
}

func TestReadRefusesOtherEncodings(t *testing.T) {
	fields := told(free(5, recs("a")))[:20]
	for what, texts := range map[string]string{
		"a length in two bytes instead of one":   "\x82\x00a\x00",
		"an empty text in two bytes":             "\x80\x00\x00",
		"a value whose length takes two bytes":   "\x00\x82\x00a",
		"a length below 0":                       "\x01\x00",
		"a text that is longer than the rest":    "\x00\x04a",
		"no value":                               "\x02a",
		"no key":                                 "",
		"a length that does not end":             "\x00\x80",
		"a third text":                           "\x00\x00\x00",
		"a key of 65 bytes":                      "\x82\x01" + long(65) + "\x00",
		"a value of 65 bytes":                    "\x00\x82\x01" + long(65),
		"a length of more than the bytes of all": "\x80\x80\x80\x80\x80\x80\x80\x80\x80\x01\x00",
	} {
		refuses(t, what, framed(5, append(bytes.Clone(fields), texts...)), api.ErrCorrupt)
	}
	p := framed(5, append(bytes.Clone(fields), "\x80\x01"+long(64)+"\x00"...))
	readsAs(t, "a key of 64 bytes", p, free(5, same(1, long(64), "")), len(p))
}

func TestReadRefusesOtherChecksums(t *testing.T) {
	b := data(5, 9, 1, 7, true, recs("a"))
	p := bytesOf(t, b)
	for _, sum := range []uint32{0, 1<<32 - 1, ^binary.LittleEndian.Uint32(p[12:]), binary.BigEndian.Uint32(p[12:])} {
		x := bytes.Clone(p)
		binary.LittleEndian.PutUint32(x[12:], sum)
		refuses(t, "another checksum", x, api.ErrCorrupt)
	}
	// A length that leaves no room for the checksum, or for the checksum alone.
	for n := range uint32(5) {
		refuses(t, "no room for the checksum", append(head(n), 0, 0, 0, 0), api.ErrCorrupt)
	}
}

func TestRebaseOfBytes(t *testing.T) {
	for _, b := range rights() {
		p := bytesOf(t, b)
		for _, base := range []int64{0, 1, 77, b.Base, 1 << 32, 1<<40 - 1, 1 << 40} {
			q, ok := Rebase(p, base)
			if !ok || len(q) != len(p) || !bytes.Equal(q[8:], p[8:]) {
				t.Errorf("P6.2: Rebase of %x to %d: %x, %v", p, base, q, ok)
				continue
			}
			other := with(b, func(b *api.Batch) { b.Base = base })
			if !bytes.Equal(q, bytesOf(t, other)) {
				t.Errorf("P6.2: Rebase of %x to %d: %x", p, base, q)
			}
			readsAs(t, "another base", q, other, len(p))
		}
	}
}

// noRebase fails the test unless Rebase answers no bytes and false.
func noRebase(t *testing.T, what string, p []byte, base int64) {
	t.Helper()
	if q, ok := Rebase(p, base); ok || len(q) > 0 {
		t.Errorf("P6.2: Rebase of %s, %x, to %d: %x, %v", what, p, base, q, ok)
	}
}

func TestRebaseRefusesBases(t *testing.T) {
	for _, b := range rights() {
		for _, base := range []int64{-1, -2, math.MinInt64, 1<<40 + 1, 1 << 41, 1<<62 + 5, math.MaxInt64} {
			noRebase(t, "a batch", bytesOf(t, b), base)
			noRebase(t, "no bytes", nil, base)
		}
	}
}

func TestRebaseRefusesWhatIsNoBatch(t *testing.T) {
	noRebase(t, "nil", nil, 5)
	noRebase(t, "an empty byte string", []byte{}, 5)
	noRebase(t, "a base alone", make([]byte, 8), 5)
	noRebase(t, "too great a length", head(1<<32-1), 5)
	for _, b := range rights() {
		p := bytesOf(t, b)
		for n := range p {
			noRebase(t, "a cut batch", bytes.Clone(p[:n]), 5)
			noRebase(t, "a batch that spare capacity completes", p[:n], 5)
		}
		noRebase(t, "a batch and a byte", append(bytes.Clone(p), 0), 5)
		noRebase(t, "two batches", append(bytes.Clone(p), p...), 5)
		// A right base does not mend a wrong one, since p is then no encoding of a batch.
		noRebase(t, "a base below 0", framed(-1, told(b)), 5)
		noRebase(t, "a base above MaxOffset", framed(1<<40+1, told(b)), 5)
		for i := 8; i < len(p); i++ {
			x := bytes.Clone(p)
			x[i] ^= 1
			noRebase(t, "a changed byte", x, 5)
		}
	}
}

// inRoom returns b with spare capacity filled with a mark behind it, and the whole of that memory.
func inRoom(b []byte) (part, whole []byte) {
	whole = append(bytes.Clone(b), bytes.Repeat([]byte{0xa5}, 64)...)
	return whole[:len(b)], whole
}

// scribble overwrites b and all of its spare capacity.
func scribble(b []byte) {
	b = b[:cap(b)]
	for i := range b {
		b[i] = 0xee
	}
}

func TestBytesHandedInStay(t *testing.T) {
	for _, b := range rights() {
		p := bytesOf(t, b)
		for _, x := range [][]byte{p, p[:len(p)-1], append(bytes.Clone(p), p...), p[:5]} {
			part, whole := inRoom(x)
			before := bytes.Clone(whole)
			Read(part)
			Rebase(part, 77)
			Rebase(part, -1)
			if !bytes.Equal(whole, before) {
				t.Fatalf("R2: %d bytes were changed, or what lies behind them", len(x))
			}
		}
	}
}

func TestBatchesHandedInStay(t *testing.T) {
	for _, b := range append(rights(), wrongs()...) {
		want, why := Bytes(b)
		whole := append(slices.Clone(b.Recs), same(30, "spare", long(70))...)
		before := slices.Clone(whole)
		kept := b
		b.Recs = whole[:len(b.Recs)]
		p, no := Bytes(b)
		if no != why || !bytes.Equal(p, want) || Right(b) != why || Size(b) != len(want) || Count(b) != Count(kept) {
			t.Errorf("R5: %v depends on spare capacity", kept)
		}
		if !Same(b, kept) || !slices.Equal(whole, before) || !equal(b, kept) {
			t.Errorf("R2: %v was changed, or what lies behind its records", kept)
		}
	}
}

func TestBytesReturnedAreNewMemory(t *testing.T) {
	for _, b := range rights() {
		p := bytesOf(t, b)
		kept := bytes.Clone(p)
		scribble(bytesOf(t, b))
		part, whole := inRoom(p)
		before := bytes.Clone(whole)
		q, _ := Rebase(part, b.Base)
		scribble(q)
		if !bytes.Equal(p, kept) {
			t.Fatalf("R2: two results of Bytes share memory: %v", b)
		}
		if !bytes.Equal(whole, before) {
			t.Fatalf("R2: the result of Rebase shares memory with its argument: %v", b)
		}
	}
}

func TestBatchesReadAreNewMemory(t *testing.T) {
	for _, b := range rights() {
		p := bytesOf(t, b)
		first, _, _ := Read(p)
		second, _, _ := Read(p)
		for i := range second.Recs[:cap(second.Recs)] {
			second.Recs[:cap(second.Recs)][i] = api.Rec{Key: "over", Value: "written"}
		}
		scribble(p)
		if !equal(first, b) {
			t.Errorf("R2: what Read returned shares memory with its argument or another result: %v, want %v", first, b)
		}
	}
}
