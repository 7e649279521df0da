package crc

import (
	"bytes"
	"testing"
)

// sample returns n bytes that follow no short rule, the same ones every time.
func sample(n int, seed uint32) []byte {
	b := make([]byte, n)
	for i := range b {
		seed = seed*1664525 + 1013904223
		b[i] = byte(seed >> 24)
	}
	return b
}

// divided computes the checksum in another way than the program: by long division of the
// message's bits, most significant bit first, by the polynomial as it is usually written.
func divided(b []byte) uint32 {
	const usual = 0x1edc6f41
	c := uint32(0xffffffff)
	for _, x := range b {
		for i := range 8 {
			bit := uint32(x>>i) & 1
			if c>>31 != bit {
				c = c<<1 ^ usual
			} else {
				c <<= 1
			}
		}
	}
	var turned uint32
	for i := range 32 {
		turned |= c >> i & 1 << (31 - i)
	}
	return ^turned
}

// The examples of the chapter, and the test vectors of RFC 3720.
func TestOfKnownSums(t *testing.T) {
	up, down := make([]byte, 32), make([]byte, 32)
	for i := range up {
		up[i], down[31-i] = byte(i), byte(i)
	}
	for _, c := range []struct {
		what string
		b    []byte
		want uint32
	}{
		{"the digits 1 to 9", []byte("123456789"), 0xe3069283},
		{"nil", nil, 0},
		{"an empty byte string", []byte{}, 0},
		{"32 zeros", make([]byte, 32), 0x8a9136aa},
		{"32 times 0xff", bytes.Repeat([]byte{0xff}, 32), 0x62a8ab43},
		{"0 to 31", up, 0x46dd794e},
		{"31 to 0", down, 0x113fdb5c},
		{"one zero", []byte{0}, 0x527d5351},
		{"a", []byte("a"), 0xc1d04330},
	} {
		if got := Of(c.b); got != c.want {
			t.Errorf("P1.1: Of %s: %#x, want %#x", c.what, got, c.want)
		}
	}
}

func TestOfAgreesWithDivision(t *testing.T) {
	for n := range 300 {
		b := sample(n, uint32(n))
		if got, want := Of(b), divided(b); got != want {
			t.Fatalf("P1.1: Of %d bytes: %#x, want %#x", n, got, want)
		}
	}
	for x := range 256 {
		b := []byte{byte(x)}
		if got, want := Of(b), divided(b); got != want {
			t.Fatalf("P1.1: Of the byte %d: %#x, want %#x", x, got, want)
		}
	}
}

func TestNextOneByte(t *testing.T) {
	for _, c := range []struct {
		c    uint32
		b    byte
		want uint32
	}{
		{0, 0, 0},
		{0, 0x80, 0x82f63b78},
		{0x80, 0, 0x82f63b78},
		{0, 0x40, 0x417b1dbc},
		{0, 1, 0xf26b8303},
		{0xff, 0xff, 0},
		{0x100, 0, 1},
		{0xffffff00, 0, 0x00ffffff},
		{0xffffffff, 0xff, 0x00ffffff},
		{0xffffffff, 0, ^uint32(0x527d5351)},
	} {
		if got := Next(c.c, c.b); got != c.want {
			t.Errorf("P1.1: Next(%#x, %#x): %#x, want %#x", c.c, c.b, got, c.want)
		}
	}
}

func TestNextBuildsOf(t *testing.T) {
	b := sample(100, 7)
	c := uint32(1<<32 - 1)
	for i, x := range b {
		if got := Of(b[:i]); got != ^c {
			t.Fatalf("P1.1: Of the first %d bytes: %#x, want the complement of %#x", i, got, c)
		}
		c = Next(c, x)
	}
}

func TestPutBytes(t *testing.T) {
	for _, c := range []struct {
		b, want []byte
	}{
		{nil, []byte{0, 0, 0, 0}},
		{[]byte{}, []byte{0, 0, 0, 0}},
		{[]byte("123456789"), []byte("\x83\x92\x06\xe3123456789")},
		{[]byte{0}, []byte{0x51, 0x53, 0x7d, 0x52, 0}},
	} {
		if got := Put(c.b); !bytes.Equal(got, c.want) {
			t.Errorf("P1.1: Put(%x): %x, want %x", c.b, got, c.want)
		}
	}
}

func TestCheckTakesWhatPutGives(t *testing.T) {
	for n := range 200 {
		b := sample(n, uint32(n)+9)
		got, ok := Check(Put(b))
		if !ok || !bytes.Equal(got, b) {
			t.Fatalf("P1.1: Check of Put of %d bytes: %x, %v", n, got, ok)
		}
	}
	if got, ok := Check([]byte{0, 0, 0, 0}); !ok || len(got) != 0 {
		t.Errorf("P1.1: Check of the checksum of no bytes: %x, %v", got, ok)
	}
	if got, ok := Check(Put(Put([]byte("x")))); !ok || !bytes.Equal(got, Put([]byte("x"))) {
		t.Errorf("P1.1: Check takes off one checksum only: %x, %v", got, ok)
	}
}

// refused fails the test unless Check answers no bytes and false.
func refused(t *testing.T, what string, b []byte) {
	t.Helper()
	if got, ok := Check(b); ok || got != nil {
		t.Errorf("P1.1: Check of %s, %x: %x, %v", what, b, got, ok)
	}
}

func TestCheckRefusesShort(t *testing.T) {
	refused(t, "nil", nil)
	for n := range 4 {
		refused(t, "too few zeros", make([]byte, n))
		refused(t, "too few bytes of a checksum", Put([]byte("123456789"))[:n])
		// The missing bytes stand in the spare capacity, which is not to be read.
		refused(t, "a cut checksum of no bytes", make([]byte, n, 4))
	}
}

func TestCheckRefusesWrongSum(t *testing.T) {
	refused(t, "bytes without a checksum", []byte("123456789"))
	refused(t, "zeros", make([]byte, 5))
	refused(t, "a checksum with the most significant byte first", []byte("\xe3\x06\x92\x83123456789"))
	refused(t, "a checksum behind its bytes", []byte("123456789\x83\x92\x06\xe3"))
	refused(t, "a checksum that was not complemented", []byte("\x7c\x6d\xf9\x1c123456789"))
	refused(t, "the sum of no bytes as all ones", []byte{0xff, 0xff, 0xff, 0xff})
	p := Put([]byte("123456789"))
	refused(t, "one byte less", p[:len(p)-1])
	refused(t, "one byte more", append(bytes.Clone(p), 0))
}

func TestCheckRefusesTurnedBits(t *testing.T) {
	p := Put(sample(40, 3))
	for i := range 8 * len(p) {
		p[i/8] ^= 1 << (i % 8)
		refused(t, "a turned bit", p)
		p[i/8] ^= 1 << (i % 8)
	}
	if _, ok := Check(p); !ok {
		t.Error("P1.1: Check refuses what it took before")
	}
}

// inRoom returns b with spare capacity filled with a mark behind it, and the whole of that memory.
func inRoom(b []byte) (part, whole []byte) {
	whole = append(bytes.Clone(b), bytes.Repeat([]byte{0xa5}, 32)...)
	return whole[:len(b)], whole
}

func TestArgumentsStay(t *testing.T) {
	for n := range 20 {
		b := sample(n, 5)
		for _, in := range [][]byte{b, Put(b)} {
			part, whole := inRoom(in)
			before := bytes.Clone(whole)
			Of(part)
			Put(part)
			Check(part)
			if !bytes.Equal(whole, before) {
				t.Fatalf("R2: %d bytes were changed, or what lies behind them", len(in))
			}
		}
	}
}

func TestSpareCapacityIsNotRead(t *testing.T) {
	b := sample(20, 6)
	part, _ := inRoom(b)
	if Of(part) != Of(b) || !bytes.Equal(Put(part), Put(b)) {
		t.Error("R5: Of or Put depends on spare capacity")
	}
	part, _ = inRoom(Put(b))
	if got, ok := Check(part); !ok || !bytes.Equal(got, b) {
		t.Error("R5: Check depends on spare capacity")
	}
}

// scribble overwrites b and all of its spare capacity.
func scribble(b []byte) {
	b = b[:cap(b)]
	for i := range b {
		b[i] = 0xee
	}
}

func TestResultsAreNewMemory(t *testing.T) {
	for n := range 20 {
		b := sample(n, 8)
		part, whole := inRoom(b)
		before := bytes.Clone(whole)
		scribble(Put(part))
		if !bytes.Equal(whole, before) {
			t.Fatalf("R2: Put of %d bytes shares memory with its argument", n)
		}
		part, whole = inRoom(Put(b))
		before = bytes.Clone(whole)
		got, _ := Check(part)
		scribble(got)
		if !bytes.Equal(whole, before) {
			t.Fatalf("R2: Check of %d bytes shares memory with its argument", n)
		}
		first := Put(b)
		scribble(Put(b))
		if !bytes.Equal(first, Put(b)) {
			t.Fatalf("R2: two results of Put of %d bytes share memory", n)
		}
	}
}
