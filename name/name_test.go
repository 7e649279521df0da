package name

import (
	"fmt"
	"math"
	"regexp"
	"slices"
	"strconv"
	"strings"
	"testing"
	"unicode/utf8"
	"unsafe"

	"bordereau/api"
)

// plain are the runes up to U+00FF that a name may have, written out.
const plain = "abcdefghijklmnopqrstuvwxyz0123456789.-_"

// runesOf computes the runes of a text in another way than by a range: by the decoder, one after the other.
func runesOf(s string) []rune {
	var out []rune
	for len(s) > 0 {
		r, size := utf8.DecodeRuneInString(s)
		out = append(out, r)
		s = s[size:]
	}
	return out
}

// valid computes Right from the list of runes.
func valid(s string) bool {
	runes := runesOf(s)
	for _, r := range runes {
		if !strings.ContainsRune(plain, r) && r <= 0xff || r == 0xfffd {
			return false
		}
	}
	return len(runes) >= 1 && len(runes) <= 40
}

// broken are texts that are no UTF-8, each with the number of its bytes that belong to no rune.
func broken() map[string]int {
	out := map[string]int{
		"\xc3":             1, // cut off
		"\xe4\xb8":         2,
		"\xf0\x9f\x98":     3,
		"\xc0\xaf":         2, // longer than needed
		"\xc1\xa1":         2,
		"\xe0\x80\xaf":     3,
		"\xe0\x9f\xbf":     3,
		"\xf0\x80\x80\xaf": 4,
		"\xed\xa0\x80":     3, // surrogates
		"\xed\xbf\xbf":     3,
		"\xf4\x90\x80\x80": 4, // above U+10FFFF
		"\xff\xfe":         2,
		"\xb8\xe4":         2,
	}
	for x := 0x80; x < 0x100; x++ {
		out[string([]byte{byte(x)})] = 1
	}
	return out
}

// everyRune goes through all runes that UTF-8 has.
func everyRune(f func(r rune)) {
	for r := rune(0); r <= utf8.MaxRune; r++ {
		if utf8.ValidRune(r) {
			f(r)
		}
	}
}

func TestRightOfOneRune(t *testing.T) {
	everyRune(func(r rune) {
		s := string(r)
		want := strings.Contains(plain, s) || r > 0xff && r != 0xfffd
		if Right(s) != want {
			t.Errorf("P3.1: Right of %U alone: %v", r, !want)
		}
	})
}

func TestRightOfEveryPlace(t *testing.T) {
	var runes []rune
	for r := rune(0); r < 0x300; r++ {
		runes = append(runes, r)
	}
	runes = append(runes, 0x660, 0xfffc, 0xfffd, 0xfffe, 0xffff, 0x10000, 0x1f600, utf8.MaxRune)
	for _, r := range runes {
		for _, around := range [][2]string{{"", ""}, {"a", ""}, {"", "a"}, {"a", "a"}, {"世", "."}, {"0123456789", "abcdef"}} {
			s := around[0] + string(r) + around[1]
			if Right(s) != valid(s) {
				t.Errorf("P3.1: Right(%q): %v", s, !valid(s))
			}
		}
	}
}

func TestRightOfNames(t *testing.T) {
	for s, want := range map[string]bool{
		"":                         false,
		"A":                        false,
		"Log":                      false,
		"loG":                      false,
		"log":                      true,
		"start.new":                true,
		".":                        true,
		"..":                       true,
		"-":                        true,
		"_":                        true,
		"a b":                      false,
		" a":                       false,
		"a\n":                      false,
		"a/b":                      false,
		"a\x00":                    false,
		"\u007f":                   false,
		"\u0080":                   false,
		"é":                        false,
		"\u00fe":                   false,
		"\u00ff":                   false,
		"\u0100":                   true,
		"\u0101":                   true,
		"世界":                       true,
		"\ufffc":                   true,
		"\ufffd":                   false,
		"\ufffe":                   true,
		"a\ufffdb":                 false,
		"\U0001f600":               true,
		"00000000000000000007.log": true,
	} {
		if Right(s) != want {
			t.Errorf("P3.1: Right(%q): %v", s, !want)
		}
	}
}

func TestRightOfLengths(t *testing.T) {
	for _, r := range []string{"a", "9", ".", "\u0100", "世", "\U0001f600"} {
		for n := range 2*api.MaxName + 2 {
			want := n >= 1 && n <= 40
			if s := strings.Repeat(r, n); Right(s) != want {
				t.Errorf("P3.1: Right of %d times %q: %v", n, r, !want)
			}
		}
	}
	for _, s := range []string{"世" + strings.Repeat("a", 39), strings.Repeat("a", 39) + "世"} {
		if !Right(s) || Right(s+"a") || Right("a"+s) || Right(s+"世") {
			t.Errorf("P3.1: Right of 40 runes and of one more, %q", s)
		}
	}
	if Right(strings.Repeat("a", 1<<20)) || Right(strings.Repeat("A", 1<<20)) {
		t.Error("P3.1: Right of 2^20 runes: true")
	}
	if Right(strings.Repeat("a", 39)+"A") || Right(strings.Repeat("a", 40)+"A") {
		t.Error("P3.1: Right of a text that ends with a capital: true")
	}
}

func TestRightRefusesBroken(t *testing.T) {
	for s := range broken() {
		for _, text := range []string{s, "a" + s, s + "a", "世" + s + "世", s + s} {
			if Right(text) {
				t.Errorf("P3.1: Right(%q): true", text)
			}
		}
	}
}

func TestCount(t *testing.T) {
	for s, want := range map[string]int{
		"": 0, "a": 1, "\x00": 1, "ab": 2, "é": 1, "\u00ff": 1, "\u0100": 1, "世界": 2,
		"\ufffd": 1, "\U0001f600": 1, "a\xff\xfeb": 4, "\xe4\xb8": 2, "\xe4\xb8a": 3, "\xe4\xb8世": 3,
	} {
		if got := Count(s); got != want {
			t.Errorf("P3.1: Count(%q): %d, want %d", s, got, want)
		}
	}
	for s, n := range broken() {
		if got := Count(s); got != n {
			t.Errorf("P3.1: Count(%q): %d, want %d", s, got, n)
		}
		if got := Count("世" + s + "ab"); got != n+3 {
			t.Errorf("P3.1: Count of %q and three runes: %d, want %d", s, got, n+3)
		}
	}
	if got := Count(strings.Repeat("世", 100000)); got != 100000 {
		t.Errorf("P3.1: Count of 100000 runes: %d", got)
	}
}

func TestUpperOfOneRune(t *testing.T) {
	const small, large = "abcdefghijklmnopqrstuvwxyz", "ABCDEFGHIJKLMNOPQRSTUVWXYZ"
	everyRune(func(r rune) {
		want := string(r)
		if i := strings.IndexRune(small, r); i >= 0 {
			want = large[i : i+1]
		}
		if got := Upper(string(r)); got != want {
			t.Errorf("P3.1: Upper of %U: %q, want %q", r, got, want)
		}
	})
}

func TestUpperOfTexts(t *testing.T) {
	for s, want := range map[string]string{
		"":                       "",
		"start.new":              "START.NEW",
		"azAZ09.-_":              "AZAZ09.-_",
		"`a{z":                   "`A{Z",
		"ßéſıÿā":                 "ßéſıÿā",
		"世a界b":                   "世A界B",
		"a\xffb":                 "A\ufffdB",
		"\xff":                   "\ufffd",
		"\xe4\xb8":               "\ufffd\ufffd",
		"\xe4\xb8a":              "\ufffd\ufffdA",
		"a\ufffdb":               "A\ufffdB",
		"\U0001f600z":            "\U0001f600Z",
		strings.Repeat("ab", 99): strings.Repeat("AB", 99),
	} {
		if got := Upper(s); got != want {
			t.Errorf("P3.1: Upper(%q): %q, want %q", s, got, want)
		}
	}
	for s, n := range broken() {
		if got, want := Upper("世"+s+"x"), "世"+strings.Repeat("\ufffd", n)+"X"; got != want {
			t.Errorf("P3.1: Upper of %q between two runes: %q, want %q", s, got, want)
		}
	}
}

// bases returns those next to 0, to MaxOffset, to the powers of two and ten, and to the ends of int64.
func bases() []int64 {
	out := []int64{math.MinInt64, math.MinInt64 + 1, math.MaxInt64 - 1, math.MaxInt64, 123456789012}
	for d := int64(-2); d <= 2; d++ {
		out = append(out, d, api.MaxOffset+d)
		for i := range 63 {
			out = append(out, int64(1)<<i+d, -int64(1)<<i+d)
		}
		for n := int64(1); n < math.MaxInt64/10; n *= 10 {
			out = append(out, n+d, -n+d)
		}
	}
	return out
}

// rightKinds are kinds that a file may have.
func rightKinds() []string {
	return []string{"a", "log", "index", "snapshot", "0", "007", "-", "_", "-1", "世", "\u0100", "世_1", "\U0001f600",
		"\ufffc", "\ufffe", strings.Repeat("k", 39), strings.Repeat("k", 40), strings.Repeat("世", 40)}
}

// wrongKinds are kinds that no file has.
func wrongKinds() []string {
	return []string{"", ".", "..", ".log", "log.", "a.b", "世.", "Log", "LOG", "lo g", " log", "log\n", "\x00", "é", "\u00ff",
		"\ufffd", "log\ufffd", "\xff", "log\xff", "\xe4\xb8", "a/b", "+", strings.Repeat("k", 41), strings.Repeat("世", 41), strings.Repeat("k", 100000)}
}

func TestFileOfKnownNames(t *testing.T) {
	for _, c := range []struct {
		base int64
		kind string
		want string
	}{
		{7, "log", "00000000000000000007.log"},
		{0, "log", "00000000000000000000.log"},
		{1, "a", "00000000000000000001.a"},
		{10, "index", "00000000000000000010.index"},
		{123456789012, "世_1", "00000000123456789012.世_1"},
		{1<<40 - 1, "log", "00000001099511627775.log"},
		{1 << 40, "snapshot", "00000001099511627776.snapshot"},
	} {
		if got, ok := File(c.base, c.kind); got != c.want || !ok {
			t.Errorf("P3.1: File(%d, %q): %q, %v, want %q", c.base, c.kind, got, ok, c.want)
		}
		if base, kind, ok := Parse(c.want); base != c.base || kind != c.kind || !ok {
			t.Errorf("P3.1: Parse(%q): %d, %q, %v", c.want, base, kind, ok)
		}
	}
}

func TestFileAndBack(t *testing.T) {
	for _, base := range bases() {
		right := base >= 0 && base <= 1<<40
		for _, kind := range rightKinds() {
			s, ok := File(base, kind)
			if !right {
				if s != "" || ok {
					t.Errorf("P3.1: File(%d, %q): %q, %v", base, kind, s, ok)
				}
				continue
			}
			if want := fmt.Sprintf("%020d.%s", base, kind); s != want || !ok {
				t.Errorf("P3.1: File(%d, %q): %q, %v", base, kind, s, ok)
			}
			if n, k, ok := Parse(s); n != base || k != kind || !ok {
				t.Errorf("P3.1: Parse(%q): %d, %q, %v", s, n, k, ok)
			}
		}
	}
}

func TestFileRefusesKinds(t *testing.T) {
	for _, base := range []int64{-1, 0, 7, api.MaxOffset, api.MaxOffset + 1} {
		for _, kind := range wrongKinds() {
			if s, ok := File(base, kind); s != "" || ok {
				t.Errorf("P3.1: File(%d, %q): %q, %v", base, kind, s, ok)
			}
		}
	}
	for s := range broken() {
		if name, ok := File(0, "a"+s); name != "" || ok {
			t.Errorf("P3.1: File(0, %q): %q, %v", "a"+s, name, ok)
		}
	}
}

// noFile fails the test unless Parse answers that s is no file's name.
func noFile(t *testing.T, s string) {
	t.Helper()
	if base, kind, ok := Parse(s); base != 0 || kind != "" || ok {
		t.Errorf("P3.1: Parse(%q): %d, %q, %v", s, base, kind, ok)
	}
}

func TestParseRefuses(t *testing.T) {
	for _, s := range []string{
		"", ".", "..", "log", ".log", "7.log", "0.log", "start", "start.new", "clean",
		"0000000000000000007.log",   // fewer digits
		"000000000000000000007.log", // more digits
		"00000000000000000000000000000000000000000000000007.log",
		"-0000000000000000007.log", "+0000000000000000007.log", // a sign
		"-00000000000000000007.log", "+00000000000000000007.log",
		"00000000000000000007log", "00000000000000000007-log", "00000000000000000007", // no dot
		"00000000000000000007.", "00000000000000000007..", // no kind
		"00000000000000000007..log", "00000000000000000007.log.", "00000000000000000007.log.x",
		"0000000000.0000000007.log", ".00000000000000000007.log", "0000000000000000000.7",
		" 0000000000000000007.log", "0000000000000000007 .log", "00000000000000000007 .log", " 00000000000000000007.log",
		"0000000000000000000x.log", "0x000000000000000007.log", "0000000000000000_007.log", "00000000000000001e07.log",
		"0000000000000000000٣.log", "000000000000000000٣.log", "0000000000000000000７.log",
		"0000000000000000000\xff.log", "00000000000000000007\xff.log", "\xff00000000000000000007.log",
		"00000001099511627777.log", "00000009999999999999.log", "09223372036854775807.log", "09223372036854775808.log",
		"18446744073709551615.log", "18446744073709551616.log", "18446744073709551623.log", "99999999999999999999.log",
		"18446744073709551616.世", strings.Repeat("9", 100000) + ".log", strings.Repeat("0", 100000) + ".log",
	} {
		noFile(t, s)
	}
	for _, kind := range wrongKinds() {
		noFile(t, "00000000000000000007."+kind)
		noFile(t, "00000000000000000000."+kind)
	}
	for s := range broken() {
		noFile(t, "00000000000000000007.a"+s)
		noFile(t, "00000000000000000007"+s+".a")
		noFile(t, "00000000000000000007"+s+"a")
	}
}

var shape = regexp.MustCompile(`^([0-9]{20})\.([^.]*)$`)

// parsed computes Parse in another way: by a pattern for the digits and the dot, and Right as the list of runes has it.
func parsed(s string) (int64, string, bool) {
	m := shape.FindStringSubmatch(s)
	if m == nil || !valid(m[2]) {
		return 0, "", false
	}
	base, err := strconv.ParseInt(m[1], 10, 64)
	if err != nil || base > 1<<40 {
		return 0, "", false
	}
	return base, m[2], true
}

// parseAgrees fails the test unless Parse answers what the pattern leads to, and File gives the text back.
func parseAgrees(t *testing.T, s string) {
	t.Helper()
	base, kind, ok := Parse(s)
	if n, k, want := parsed(s); base != n || kind != k || ok != want {
		t.Fatalf("P3.1: Parse(%q): %d, %q, %v, want %d, %q, %v", s, base, kind, ok, n, k, want)
	}
	if again, made := File(base, kind); ok && (again != s || !made) {
		t.Fatalf("P3.1: File(%d, %q): %q, %v, want %q", base, kind, again, made, s)
	}
}

// Every text that differs from a name in one byte: another byte, one byte less, one byte more.
func TestParseOfAlmostNames(t *testing.T) {
	for _, s := range []string{"00000000000000000007.log", "00000001099511627776.世", "00000001099511627775.a", "00000000000000000000." + strings.Repeat("k", 40)} {
		parseAgrees(t, s)
		for i := range len(s) + 1 {
			for x := range 256 {
				parseAgrees(t, s[:i]+string([]byte{byte(x)})+s[i:])
				if i < len(s) {
					parseAgrees(t, s[:i]+string([]byte{byte(x)})+s[i+1:])
				}
			}
			if i < len(s) {
				parseAgrees(t, s[:i]+s[i+1:])
			}
			parseAgrees(t, s[:i])
			parseAgrees(t, s[i:])
		}
	}
}

func TestParseOfManyBases(t *testing.T) {
	for _, base := range bases() {
		for _, digits := range []string{"%d", "%019d", "%020d", "%021d", "%+020d", "% 20d", "%20d"} {
			parseAgrees(t, fmt.Sprintf(digits, base)+".log")
			parseAgrees(t, fmt.Sprintf(digits, uint64(base))+".log")
		}
	}
}

// ascending are texts each of which is less than those behind it.
func ascending() []string {
	return []string{"", "\x00", "\x00\x00", "-", "-a", ".", "0", "00", "000", "01", "1", "10", "2", "A", "Z", "_", "a", "a.", "a0", "a0a", "aa", "ab",
		"a\u00e9", "a\ufffd", "b", "z", "\u007f", "\u0080", "é", "\u00ff", "\u0100", "世", "世a", "世界", "\ufffc", "\ufffd", "\ufffda",
		"\ufffe", "\uffff", "\U00010000", "\U0001f600", "\U0001f600a", "\U0010ffff"}
}

func TestLessOfKnownOrder(t *testing.T) {
	l := ascending()
	for i, a := range l {
		for k, b := range l {
			if Less(a, b) != (i < k) {
				t.Errorf("P3.1: Less(%q, %q): %v", a, b, i >= k)
			}
		}
	}
}

// A byte that is no UTF-8 is U+FFFD, so it is less than runes whose bytes are less than it, and texts of other bytes can be equal.
func TestLessOfBroken(t *testing.T) {
	for _, c := range []struct {
		a, b string
		want bool
	}{
		{"\xff", "\U00010000", true},
		{"\U00010000", "\xff", false},
		{"\xff", "\ufffe", true},
		{"\ufffe", "\xff", false},
		{"\x80", "世", false},
		{"世", "\x80", true},
		{"\x80", "\u0100", false},
		{"\u0100", "\x80", true},
		{"\xff", "\xfe", false},
		{"\xfe", "\xff", false},
		{"\xff", "\ufffd", false},
		{"\ufffd", "\xff", false},
		{"\xffa", "\ufffdb", true},
		{"\ufffda", "\xffb", true},
		{"\xfeb", "\xffa", false},
		{"\xff", "\ufffda", true},
		{"\xff", "\xfe\xfe", true},
		{"\xe4\xb8", "\xff", false},
		{"\xff", "\xe4\xb8", true},
		{"\xe4\xb8", "\ufffd\ufffd", false},
		{"\ufffd\ufffd", "\xe4\xb8", false},
		{"a\xff", "a", false},
		{"a", "a\xff", true},
		{"\xff", "", false},
		{"", "\xff", true},
	} {
		if Less(c.a, c.b) != c.want {
			t.Errorf("P3.1: Less(%q, %q): %v", c.a, c.b, !c.want)
		}
	}
}

func TestLessAgreesWithRunes(t *testing.T) {
	var l []string
	for s := range broken() {
		l = append(l, s, "a"+s, s+"世")
	}
	l = append(l, ascending()...)
	l = append(l, rightKinds()...)
	l = append(l, wrongKinds()...)
	for _, a := range l {
		for _, b := range l {
			if want := slices.Compare(runesOf(a), runesOf(b)) < 0; Less(a, b) != want {
				t.Fatalf("P3.1: Less(%q, %q): %v", a, b, !want)
			}
		}
	}
}

// What stands in memory behind a text, a piece of a longer one, is not a part of it.
func TestPiecesOfTexts(t *testing.T) {
	whole := "00000000000000000007.log世"
	for i := range len(whole) + 1 {
		piece, alone := whole[:i], strings.Clone(whole[:i])
		n, k, ok := Parse(piece)
		m, j, is := Parse(alone)
		if Right(piece) != Right(alone) || Count(piece) != Count(alone) || Upper(piece) != Upper(alone) || n != m || k != j || ok != is || Less(piece, alone) {
			t.Errorf("R4: %q as a piece of a text", piece)
		}
	}
}

// within reports whether the memory of part lies in that of s.
func within(part, s string) bool {
	p, q := uintptr(unsafe.Pointer(unsafe.StringData(part))), uintptr(unsafe.Pointer(unsafe.StringData(s)))
	return p >= q && p < q+uintptr(len(s))
}

func TestResultsAreNewMemory(t *testing.T) {
	for _, s := range []string{"ABC", "abc", "世界"} {
		if within(Upper(s), s) {
			t.Errorf("R2: Upper(%q) shares memory with its argument", s)
		}
	}
	kind := strings.Repeat("k", 30)
	s, _ := File(7, kind)
	if within(s, kind) {
		t.Error("R2: File shares memory with its argument")
	}
	if _, k, _ := Parse(s); within(k, s) {
		t.Error("R2: Parse shares memory with its argument")
	}
}
