// Package crc: CRC-32C checksums of bytes, and bytes that carry their checksum in front: see doc/01-crc.md.
package crc

// polynomial is Castagnoli's with its bits reversed, because Next takes the lowest bit first.
const polynomial = 0x82f63b78

// sumBytes is how many bytes the checksum takes in front of the bytes that it covers.
const sumBytes = 4

// Of returns the CRC-32C of b.
func Of(b []byte) uint32 {
	// Starting with all bits set makes zero bytes at the front count.
	c := ^uint32(0)
	for _, x := range b {
		c = Next(c, x)
	}
	return ^c
}

// Next returns the running checksum c, which is not complemented yet, advanced by one byte.
func Next(c uint32, b byte) uint32 {
	c ^= uint32(b)
	for range 8 {
		low := c & 1
		c >>= 1
		if low == 1 {
			c ^= polynomial
		}
	}
	return c
}

// Put returns b with its checksum in front, the least significant byte first.
func Put(b []byte) []byte {
	out := make([]byte, sumBytes+len(b))
	sum := Of(b)
	for i := range sumBytes {
		out[i] = byte(sum >> (8 * i))
	}
	copy(out[sumBytes:], b)
	return out
}

// Check returns the bytes that Put was given, and true, if b is a result of Put.
func Check(b []byte) ([]byte, bool) {
	if len(b) < sumBytes || stored(b) != Of(b[sumBytes:]) {
		return nil, false
	}
	// A copy, so that the caller may change either one alone.
	out := make([]byte, len(b)-sumBytes)
	copy(out, b[sumBytes:])
	return out, true
}

// stored returns the checksum that stands in front of b, which has at least sumBytes bytes.
func stored(b []byte) uint32 {
	var sum uint32
	for i := range sumBytes {
		sum |= uint32(b[i]) << (8 * i)
	}
	return sum
}
