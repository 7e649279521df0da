package varint

import (
	"bytes"
	"math"
	"math/big"
	"strings"
	"testing"
)

// sample returns n bytes that follow no short rule, the same ones every time.
func sample(n int, seed uint32) []byte {
	b := make([]byte, n)
	for i := range b {
		seed = seed*1664525 + 1013904223
		b[i] = byte(seed >> 24)
	}
	return b
}

// written computes an encoding in another way than the program: by the words of the chapter, in numbers without a width.
func written(n int64) []byte {
	u := big.NewInt(n)
	u.Add(u, u)
	if n < 0 {
		u.Neg(u)
		u.Sub(u, big.NewInt(1))
	}
	var b []byte
	for {
		group := new(big.Int)
		u.DivMod(u, big.NewInt(128), group)
		if u.Sign() == 0 {
			return append(b, byte(group.Int64()))
		}
		b = append(b, byte(group.Int64())+128)
	}
}

// begun computes what Get answers in another way: the only end that an encoding can have is the first byte below 128,
// and the number there counts if it is written so.
func begun(b []byte) (int64, int) {
	for i, x := range b {
		if x >= 128 {
			continue
		}
		u := new(big.Int)
		for j := i; j >= 0; j-- {
			u.Mul(u, big.NewInt(128))
			u.Add(u, big.NewInt(int64(b[j]%128)))
		}
		half, odd := new(big.Int), new(big.Int)
		half.DivMod(u, big.NewInt(2), odd)
		if odd.Sign() != 0 {
			half.Neg(half)
			half.Sub(half, big.NewInt(1))
		}
		if half.IsInt64() && bytes.Equal(written(half.Int64()), b[:i+1]) {
			return half.Int64(), i + 1
		}
		return 0, 0
	}
	return 0, 0
}

// numbers returns those next to each power of two and to its negative, the least, the greatest, and some between.
func numbers() []int64 {
	out := []int64{0, math.MinInt64, math.MinInt64 + 1, math.MaxInt64, math.MaxInt64 - 1}
	for i := range 63 {
		for d := int64(-2); d <= 2; d++ {
			n := int64(1)<<i + d
			out = append(out, n, -n)
		}
	}
	for i := range 64 {
		n, _ := Back(sample(8, uint32(i)))
		out = append(out, n, n>>i)
	}
	return out
}

// The examples of the chapter, and the ends of each number of bytes up to three and of ten.
func TestPutBytes(t *testing.T) {
	for _, c := range []struct {
		n    int64
		want string
	}{
		{0, "\x00"}, {-1, "\x01"}, {1, "\x02"}, {-2, "\x03"}, {2, "\x04"},
		{63, "\x7e"}, {-64, "\x7f"}, {64, "\x80\x01"}, {-65, "\x81\x01"},
		{150, "\xac\x02"},
		{8191, "\xfe\x7f"}, {-8192, "\xff\x7f"}, {8192, "\x80\x80\x01"}, {-8193, "\x81\x80\x01"},
		{1<<62 - 1, "\xfe\xff\xff\xff\xff\xff\xff\xff\x7f"},
		{-1 << 62, "\xff\xff\xff\xff\xff\xff\xff\xff\x7f"},
		{1 << 62, "\x80\x80\x80\x80\x80\x80\x80\x80\x80\x01"},
		{math.MaxInt64, "\xfe\xff\xff\xff\xff\xff\xff\xff\xff\x01"},
		{math.MinInt64, "\xff\xff\xff\xff\xff\xff\xff\xff\xff\x01"},
	} {
		for _, b := range [][]byte{nil, {}} {
			if got := Put(b, c.n); string(got) != c.want {
				t.Errorf("P2.1: Put(%d): %x, want %x", c.n, got, c.want)
			}
		}
	}
}

func TestPutAgreesWithDivision(t *testing.T) {
	front := sample(5, 1)
	for _, n := range numbers() {
		if got, want := Put(front, n), append(bytes.Clone(front), written(n)...); !bytes.Equal(got, want) {
			t.Errorf("P2.1: Put of five bytes and %d: %x, want %x", n, got, want)
		}
	}
}

func TestGetTakesWhatPutWrites(t *testing.T) {
	for _, n := range numbers() {
		b := Put(nil, n)
		for _, behind := range []string{"", "\x00", "\x01", "\x80", "\xff\xff", "more bytes than ten"} {
			if got, k := Get(append(bytes.Clone(b), behind...)); got != n || k != len(b) {
				t.Errorf("P2.1: Get of Put of %d and %x: %d, %d", n, behind, got, k)
			}
		}
	}
}

// noNumber fails the test unless Get answers 0, 0.
func noNumber(t *testing.T, what string, b []byte) {
	t.Helper()
	if n, k := Get(b); n != 0 || k != 0 {
		t.Errorf("P2.1: Get of %s, %x: %d, %d", what, b, n, k)
	}
}

func TestGetRefusesCut(t *testing.T) {
	noNumber(t, "nil", nil)
	noNumber(t, "an empty byte string", []byte{})
	for _, n := range numbers() {
		b := Put(nil, n)
		for k := range b {
			noNumber(t, "a cut encoding", bytes.Clone(b[:k]))
			// The missing bytes stand in the spare capacity, which is not to be read.
			noNumber(t, "an encoding that spare capacity completes", b[:k])
		}
	}
}

// An encoding that ends with an empty group is longer than what Put writes for the same number.
func TestGetRefusesEmptyGroups(t *testing.T) {
	for _, n := range numbers() {
		b := Put(nil, n)
		b[len(b)-1] |= 0x80
		for range 12 {
			noNumber(t, "an encoding with an empty last group", append(bytes.Clone(b), 0))
			b = append(b, 0x80)
		}
	}
	for _, b := range []string{"\x80\x00", "\xff\x00", "\x80\x80\x00", "\x81\x80\x00", "\x80\x00\x01"} {
		noNumber(t, "an empty last group", []byte(b))
	}
}

func TestGetOfTenBytes(t *testing.T) {
	for _, front := range []byte{0x80, 0x81, 0xd5, 0xff} {
		for last := range 256 {
			b := append(bytes.Repeat([]byte{front}, 9), byte(last))
			if last != 1 {
				noNumber(t, "nine bytes and a last one that Put does not write", b)
				noNumber(t, "the same and an end", append(b, 1))
				continue
			}
			if n, k := Get(b); k != 10 || !bytes.Equal(written(n), b) {
				t.Errorf("P2.1: Get(%x): %d, %d", b, n, k)
			}
		}
	}
}

func TestGetRefusesMoreThanTenBytes(t *testing.T) {
	for n := 10; n < 80; n++ {
		for _, front := range []byte{0x80, 0x81, 0xff} {
			b := bytes.Repeat([]byte{front}, n)
			noNumber(t, "bytes without an end", b)
			for _, last := range []byte{0, 1, 2, 0x7f} {
				noNumber(t, "more than ten bytes", append(bytes.Clone(b), last))
			}
		}
	}
}

// getAgrees fails the test unless Get answers what the chapter's words lead to.
func getAgrees(t *testing.T, b []byte) {
	t.Helper()
	n, k := Get(b)
	if want, j := begun(b); n != want || k != j {
		t.Fatalf("P2.1: Get(%x): %d, %d, want %d, %d", b, n, k, want, j)
	}
}

func TestGetAgreesWithDivision(t *testing.T) {
	for x := range 256 {
		getAgrees(t, []byte{byte(x)})
		for y := range 256 {
			getAgrees(t, []byte{byte(x), byte(y)})
			getAgrees(t, []byte{byte(x) | 0x80, byte(y), byte(x ^ y)})
		}
	}
	for i := range 2000 {
		b := sample(i%14, uint32(i))
		getAgrees(t, b)
		for j := range b {
			b[j] |= 0x80
			getAgrees(t, b)
		}
	}
}

// texts returns texts whose lengths lie next to those where the length takes one byte more, and odd ones.
func texts() []string {
	out := []string{"\x00", "\xff\xfe", "é", "\x80\x00", "two\nlines", string(sample(200, 4))}
	for _, n := range []int{0, 1, 2, 62, 63, 64, 65, 8191, 8192} {
		out = append(out, strings.Repeat("é", n)[:n])
	}
	return out
}

func TestTextBytes(t *testing.T) {
	for _, c := range []struct{ b, s, want string }{
		{"", "", "\x00"},
		{"", "a", "\x02a"},
		{"ab", "cd", "ab\x04cd"},
		{"", "é", "\x04\xc3\xa9"},
		{"\x80", "\xff\x00", "\x80\x04\xff\x00"},
	} {
		if got := Text([]byte(c.b), c.s); string(got) != c.want {
			t.Errorf("P2.1: Text(%q, %q): %q, want %q", c.b, c.s, got, c.want)
		}
	}
	for _, s := range texts() {
		want := append(written(int64(len(s))), s...)
		if got := Text(nil, s); !bytes.Equal(got, want) {
			t.Errorf("P2.1: Text of %d bytes: %x", len(s), got)
		}
	}
}

func TestCutTakesWhatTextWrites(t *testing.T) {
	for _, s := range texts() {
		b := Text(nil, s)
		for _, behind := range []string{"", "\x00", "more"} {
			for _, most := range []int{len(s), len(s) + 1, 1 << 20, math.MaxInt} {
				if got, k := Cut(append(bytes.Clone(b), behind...), most); got != s || k != len(b) {
					t.Errorf("P2.1: Cut of a text of %d bytes, %d at most: %q, %d", len(s), most, got, k)
				}
			}
		}
	}
	if s, k := Cut([]byte{0}, 0); s != "" || k != 1 {
		t.Errorf("P2.1: Cut of the empty text, 0 at most: %q, %d", s, k)
	}
}

// noText fails the test unless Cut answers "", 0.
func noText(t *testing.T, what string, b []byte, most int) {
	t.Helper()
	if s, k := Cut(b, most); s != "" || k != 0 {
		t.Errorf("P2.1: Cut of %s, %d at most: %q, %d", what, most, s, k)
	}
}

func TestCutRefusesLong(t *testing.T) {
	for _, s := range texts() {
		b := Text(nil, s)
		for _, most := range []int{len(s) - 1, -1, -2, math.MinInt32, math.MinInt + 1, math.MinInt} {
			noText(t, "a longer text", b, most)
		}
		if len(s) > 0 {
			noText(t, "a text that is not empty", b, 0)
		}
	}
}

func TestCutRefusesIncomplete(t *testing.T) {
	noText(t, "nil", nil, 9)
	noText(t, "an empty byte string", []byte{}, 9)
	for _, s := range texts() {
		b := Text(nil, s)
		for k := range b {
			noText(t, "a cut text", bytes.Clone(b[:k]), math.MaxInt)
			// The missing bytes stand in the spare capacity, which is not to be read.
			noText(t, "a text that spare capacity completes", b[:k], math.MaxInt)
		}
	}
}

func TestCutRefusesLengths(t *testing.T) {
	lengths := []int64{-1, -2, -3, -64, -65, math.MinInt32, math.MinInt64, math.MinInt64 + 1,
		4, 1 << 31, 1 << 32, 1<<32 + 2, 1 << 62, math.MaxInt64 - 4, math.MaxInt64}
	for _, n := range lengths {
		for _, most := range []int{0, 3, math.MaxInt32, math.MaxInt, -1, math.MinInt} {
			noText(t, "a length that does not fit", append(Put(nil, n), "abc"...), most)
		}
	}
	for _, b := range []string{"\x80\x00", "\x82\x00a", "\x84\x80\x00ab", "\xff", strings.Repeat("\x80", 30)} {
		noText(t, "a length that Put does not write", []byte(b), math.MaxInt)
	}
}

func TestLongBytes(t *testing.T) {
	for _, c := range []struct {
		n    int64
		want string
	}{
		{0, "\x00\x00\x00\x00\x00\x00\x00\x00"},
		{1, "\x00\x00\x00\x00\x00\x00\x00\x01"},
		{-1, "\xff\xff\xff\xff\xff\xff\xff\xff"},
		{-2, "\xff\xff\xff\xff\xff\xff\xff\xfe"},
		{256, "\x00\x00\x00\x00\x00\x00\x01\x00"},
		{0x0102030405060708, "\x01\x02\x03\x04\x05\x06\x07\x08"},
		{math.MaxInt64, "\x7f\xff\xff\xff\xff\xff\xff\xff"},
		{math.MinInt64, "\x80\x00\x00\x00\x00\x00\x00\x00"},
	} {
		if got := Long(nil, c.n); string(got) != c.want {
			t.Errorf("P2.1: Long(%d): %x, want %x", c.n, got, c.want)
		}
		if got := Long([]byte("ab"), c.n); string(got) != "ab"+c.want {
			t.Errorf("P2.1: Long of two bytes and %d: %x", c.n, got)
		}
		if n, ok := Back([]byte(c.want)); n != c.n || !ok {
			t.Errorf("P2.1: Back(%x): %d, %v", c.want, n, ok)
		}
	}
}

// widened computes what Long writes in another way: by division, in numbers without a width.
func widened(n int64) []byte {
	u := big.NewInt(n)
	if n < 0 {
		u.Add(u, new(big.Int).Exp(big.NewInt(2), big.NewInt(64), nil))
	}
	return u.FillBytes(make([]byte, 8))
}

func TestLongAgreesWithDivision(t *testing.T) {
	for _, n := range numbers() {
		b := Long(nil, n)
		if !bytes.Equal(b, widened(n)) {
			t.Errorf("P2.1: Long(%d): %x, want %x", n, b, widened(n))
		}
		for _, behind := range []string{"", "\x00", "\xff", "eight more bytes"} {
			if got, ok := Back(append(bytes.Clone(b), behind...)); got != n || !ok {
				t.Errorf("P2.1: Back of Long of %d and %x: %d, %v", n, behind, got, ok)
			}
		}
	}
}

func TestBackRefusesShort(t *testing.T) {
	if n, ok := Back(nil); n != 0 || ok {
		t.Errorf("P2.1: Back(nil): %d, %v", n, ok)
	}
	b := Long(nil, -1)
	for k := range b {
		// The missing bytes stand in the spare capacity, which is not to be read.
		if n, ok := Back(b[:k]); n != 0 || ok {
			t.Errorf("P2.1: Back of %d bytes: %d, %v", k, n, ok)
		}
	}
}

// inRoom returns b with spare capacity filled with a mark behind it, and the whole of that memory.
func inRoom(b []byte) (part, whole []byte) {
	whole = append(bytes.Clone(b), bytes.Repeat([]byte{0xa5}, 32)...)
	return whole[:len(b)], whole
}

// appenders are the functions that return b followed by something, each with arguments for few and for many bytes.
func appenders() []func(b []byte) []byte {
	return []func(b []byte) []byte{
		func(b []byte) []byte { return Put(b, 0) },
		func(b []byte) []byte { return Put(b, math.MinInt64) },
		func(b []byte) []byte { return Text(b, "") },
		func(b []byte) []byte { return Text(b, "a text of 21 bytes...") },
		func(b []byte) []byte { return Long(b, 0) },
		func(b []byte) []byte { return Long(b, -1) },
	}
}

func TestArgumentsStay(t *testing.T) {
	for n := range 20 {
		for _, b := range [][]byte{sample(n, 5), Text(nil, string(sample(n, 6)))} {
			part, whole := inRoom(b)
			before := bytes.Clone(whole)
			for i, f := range appenders() {
				got := f(part)
				if !bytes.Equal(got, f(b)) {
					t.Errorf("R5: case %d depends on spare capacity", i)
				}
				if !bytes.Equal(got[:len(b)], b) {
					t.Errorf("P2.1: case %d does not begin with its argument", i)
				}
			}
			Get(part)
			Cut(part, math.MaxInt)
			Back(part)
			if !bytes.Equal(whole, before) {
				t.Fatalf("R2: %d bytes were changed, or what lies behind them", len(b))
			}
		}
	}
}

// scribble overwrites b and all of its spare capacity.
func scribble(b []byte) {
	b = b[:cap(b)]
	for i := range b {
		b[i] = 0xee
	}
}

func TestResultsAreNewMemory(t *testing.T) {
	for n := range 20 {
		part, whole := inRoom(sample(n, 8))
		before := bytes.Clone(whole)
		for i, f := range appenders() {
			first := f(part)
			kept := bytes.Clone(first)
			scribble(f(part))
			if !bytes.Equal(whole, before) {
				t.Fatalf("R2: the result of case %d shares memory with its argument", i)
			}
			if !bytes.Equal(first, kept) {
				t.Fatalf("R2: two results of case %d share memory", i)
			}
		}
	}
	b := Text(nil, "kept")
	s, _ := Cut(b, 9)
	if scribble(b); s != "kept" {
		t.Errorf("R2: the text that Cut returned shares memory with its argument: %q", s)
	}
}
