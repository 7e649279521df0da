package option

import (
	"errors"
	"fmt"
	"math"
	"reflect"
	"runtime"
	"slices"
	"strconv"
	"strings"
	"testing"
	"unicode/utf8"

	"bordereau/api"
)

// Types whose values are numbers, texts and bools, but which are not the types that the chapter names.
type (
	ownInt    int
	ownWide   int64
	ownRune   rune
	ownText   string
	ownBool   bool
	ownConfig api.Config
)

// number16 has the methods of a number in words, as values of many types do.
type number16 struct{ n int16 }

func (x number16) String() string { return strconv.Itoa(int(x.n)) }
func (x number16) Int() int64     { return int64(x.n) }

// strangers are values of types that neither Int nor Must nor Flag nor Config names.
func strangers() []any {
	n, w, r, s, b, c := 7, int64(7), 'a', "cap", true, Default()
	var none *int
	var noError error
	var noErrno *api.Errno
	return []any{
		nil, none, noError, noErrno, (any)(nil), (func())(nil), []any(nil), map[string]int(nil), (chan int)(nil),
		int8(7), int16(7), uint(7), uint8(7), uint16(7), uint32(7), uint64(7), uintptr(7), byte('a'),
		1.5, 7.0, float32(7), 7i, complex64(7),
		ownInt(7), ownWide(7), ownRune('a'), ownText("cap"), ownBool(true), ownConfig(c),
		&n, &w, &r, &s, &b, &c,
		[]byte("cap"), []rune("cap"), []string{"cap"}, []int{7}, []int64{7}, []bool{true}, []any{"cap", 7}, []api.Config{c}, [1]int{7}, [3]byte{'c', 'a', 'p'},
		map[string]int{"cap": 7}, struct{}{}, struct{ n int }{7}, struct{ SegBytes, IndexEvery, SnapEvery, Cap int }{1, 1, 1, 1},
		func() int { return 7 }, func() {}, make(chan int),
		api.OK, api.ErrArg, errors.New("7"), number16{7}, api.Rec{Key: "cap", Value: "7"}, api.Batch{}, api.Act{},
	}
}

// numbers are those next to 0, to the ends of the fields, and to the ends of the integer types.
func numbers() []int64 {
	out := []int64{math.MinInt64, math.MinInt64 + 1, math.MaxInt64 - 1, math.MaxInt64}
	for d := int64(-2); d <= 2; d++ {
		for i := range 63 {
			out = append(out, int64(1)<<i+d, -int64(1)<<i+d)
		}
		out = append(out, d, 1<<32+1<<30+d, 1<<32+5+d, -1<<32+5+d)
	}
	return out
}

// texts are those to be counted, each with the number of its runes.
func texts() map[string]int64 {
	return map[string]int64{
		"":                            0,
		"a":                           1,
		"7":                           1,
		"-12":                         3,
		"\x00":                        1,
		"\x00\x00":                    2,
		"cap":                         3,
		"segment":                     7,
		"é":                           1,
		"e\u0301":                     2,
		"\u007f\u0080":                2,
		"\u00ff\u0100":                2,
		"世界":                          2,
		"\ufffd":                      1,
		"\U0001f600":                  1,
		"\U0001f468\u200d\U0001f469":  3,
		"\U0010ffff":                  1,
		"世a\xff":                      3,
		"\xff":                        1,
		"\xff\xfe":                    2,
		"\x80":                        1,
		"\xc3":                        1,
		"\xc0\xaf":                    2,
		"\xe4\xb8":                    2,
		"\xe4\xb8a":                   3,
		"\xe4\xb8世":                   3,
		"\xed\xa0\x80":                3,
		"\xf0\x9f\x98":                3,
		"\xf4\x90\x80\x80":            4,
		strings.Repeat("世", 100000):   100000,
		strings.Repeat("\xe4", 99999): 99999,
	}
}

// intIs fails the test unless Int of v answers n and ok.
func intIs(t *testing.T, v any, n int64, ok bool) {
	t.Helper()
	if got, is := Int(v); got != n || is != ok {
		t.Errorf("P4.1: Int of %.40q, a %T: %d, %v, want %d, %v", fmt.Sprint(v), v, got, is, n, ok)
	}
}

// flagIs fails the test unless Flag of v answers b and ok.
func flagIs(t *testing.T, v any, b, ok bool) {
	t.Helper()
	if got, is := Flag(v); got != b || is != ok {
		t.Errorf("P4.1: Flag of %.40q, a %T: %v, %v, want %v, %v", fmt.Sprint(v), v, got, is, b, ok)
	}
}

func TestIntOfNumbers(t *testing.T) {
	for _, n := range numbers() {
		intIs(t, n, n, true)
		if int64(int(n)) == n {
			intIs(t, int(n), n, true)
		}
		if int64(rune(n)) == n {
			intIs(t, rune(n), n, true)
		}
	}
	intIs(t, 7, 7, true)
	intIs(t, 'a', 97, true)
	intIs(t, '世', 0x4e16, true)
	intIs(t, utf8.RuneError, 0xfffd, true)
	intIs(t, rune(0xd800), 0xd800, true)
	intIs(t, int32(math.MinInt32), math.MinInt32, true)
}

func TestIntOfTexts(t *testing.T) {
	for s, n := range texts() {
		intIs(t, s, n, true)
		// Broken bytes count one each wherever they stand.
		intIs(t, "世\xff"+s, 2+n, true)
		intIs(t, s+"\xff世", n+2, true)
	}
	for x := range 256 {
		intIs(t, string([]byte{byte(x)}), 1, true)
		for y := range 256 {
			s := string([]byte{byte(x), byte(y), 'a'})
			intIs(t, s, int64(utf8.RuneCountInString(s)), true)
		}
	}
	long := strings.Repeat("世\xffa", 20)
	for i := range len(long) + 1 {
		intIs(t, long[:i], int64(utf8.RuneCountInString(long[:i])), true)
		intIs(t, long[i:], int64(utf8.RuneCountInString(long[i:])), true)
	}
}

func TestIntOfOtherTypes(t *testing.T) {
	for _, v := range strangers() {
		intIs(t, v, 0, false)
	}
	for _, v := range []any{true, false, Default(), api.Config{}} {
		intIs(t, v, 0, false)
	}
}

func TestMustOfWideNumbers(t *testing.T) {
	for _, n := range numbers() {
		if got := Must(n); got != n {
			t.Errorf("P4.1: Must(%d): %d", n, got)
		}
	}
}

// panicked returns what f panics with, nil if it does not.
func panicked(f func()) (what any) {
	defer func() { what = recover() }()
	f()
	return nil
}

// The assertion of the test itself tells how Go panics.
func TestMustPanicsAsGoDoes(t *testing.T) {
	others := append(strangers(), 0, 7, 'a', "", "7", true, false, Default())
	for _, v := range others {
		want, _ := panicked(func() { _ = v.(int64) }).(*runtime.TypeAssertionError)
		got, ok := panicked(func() { Must(v) }).(*runtime.TypeAssertionError)
		if !ok || want == nil || got.Error() != want.Error() {
			t.Errorf("P4.1: Must of a %T: panic %v, want %v", v, got, want)
		}
	}
}

func TestFlagOfBools(t *testing.T) {
	flagIs(t, true, true, true)
	flagIs(t, false, false, true)
}

func TestFlagOfNumbers(t *testing.T) {
	for _, n := range numbers() {
		if int64(int(n)) == n {
			flagIs(t, int(n), n != 0, true)
		}
		flagIs(t, n, false, false)
	}
	flagIs(t, 0, false, true)
	flagIs(t, 5, true, true)
	flagIs(t, -1, true, true)
	flagIs(t, 256, true, true)
	flagIs(t, math.MinInt, true, true)
}

func TestFlagOfOtherTypes(t *testing.T) {
	for _, v := range strangers() {
		flagIs(t, v, false, false)
	}
	for _, v := range []any{int64(0), int64(1), 'a', rune(0), rune(1), "", "true", "1", Default(), api.Config{}} {
		flagIs(t, v, false, false)
	}
}

func TestDefault(t *testing.T) {
	want := api.Config{SegBytes: 1024, IndexEvery: 128, SnapEvery: 4, Cap: 1048576}
	c := Default()
	if c != want {
		t.Errorf("P4.2: Default: %v", c)
	}
	c.SegBytes, c.IndexEvery, c.SnapEvery, c.Cap = 1, 2, 3, 4
	if Default() != want {
		t.Errorf("P4.2: Default behind a change of an earlier answer: %v", Default())
	}
}

// fields are the names of the fields, and how each is reached.
var fields = []struct {
	name string
	of   func(c *api.Config) *int
}{
	{"segment", func(c *api.Config) *int { return &c.SegBytes }},
	{"index", func(c *api.Config) *int { return &c.IndexEvery }},
	{"snapshot", func(c *api.Config) *int { return &c.SnapEvery }},
	{"cap", func(c *api.Config) *int { return &c.Cap }},
}

// with returns c with n in the field number i.
func with(c api.Config, i, n int) api.Config {
	*fields[i].of(&c) = n
	return c
}

// short tells a list, the first runes of it if it is long.
func short(l []any) string {
	return fmt.Sprintf("%.200q", fmt.Sprintf("%v", l))
}

// configIs fails the test unless Config of l answers want and OK.
func configIs(t *testing.T, want api.Config, l ...any) {
	t.Helper()
	if got, why := Config(l...); got != want || why != api.OK {
		t.Errorf("P4.2: Config of %s: %v, %d, want %v", short(l), got, why, want)
	}
}

// refused fails the test unless Config of l answers the zero configuration and that error.
func refused(t *testing.T, want api.Errno, l ...any) {
	t.Helper()
	if got, why := Config(l...); got != (api.Config{}) || why != want {
		t.Errorf("P4.2: Config of %s: %v, %d, want no configuration and %d", short(l), got, why, want)
	}
}

// all is a configuration that differs from Default in every field.
var all = api.Config{SegBytes: 11, IndexEvery: 12, SnapEvery: 13, Cap: 14}

func TestConfigOfNothing(t *testing.T) {
	configIs(t, Default())
	configIs(t, Default(), []any(nil)...)
	configIs(t, Default(), []any{}...)
}

func TestConfigOfOneField(t *testing.T) {
	configIs(t, api.Config{SegBytes: 64, IndexEvery: 128, SnapEvery: 4, Cap: 1 << 20}, "segment", 64)
	configIs(t, api.Config{SegBytes: 1024, IndexEvery: 64, SnapEvery: 4, Cap: 1 << 20}, "index", 64)
	configIs(t, api.Config{SegBytes: 1024, IndexEvery: 128, SnapEvery: 64, Cap: 1 << 20}, "snapshot", 64)
	configIs(t, api.Config{SegBytes: 1024, IndexEvery: 128, SnapEvery: 4, Cap: 64}, "cap", 64)
	for i, f := range fields {
		for _, n := range numbers() {
			right := n >= 1 && n <= 1<<30
			values := []any{n}
			if int64(int(n)) == n {
				values = append(values, int(n))
			}
			if int64(rune(n)) == n {
				values = append(values, rune(n))
			}
			for _, v := range values {
				if right {
					configIs(t, with(Default(), i, int(n)), f.name, v)
				} else {
					refused(t, api.ErrLong, f.name, v)
				}
			}
		}
		for s, n := range texts() {
			if n > 0 {
				configIs(t, with(Default(), i, int(n)), f.name, s)
			} else {
				refused(t, api.ErrLong, f.name, s)
			}
		}
	}
}

// Each letter of a name is written small and great, in every combination.
func TestConfigInMixedLetters(t *testing.T) {
	for i, f := range fields {
		for mix := range 1 << len(f.name) {
			word := []byte(f.name)
			for k := range word {
				if mix>>k&1 == 1 {
					word[k] -= 'a' - 'A'
				}
			}
			configIs(t, with(Default(), i, 5), string(word), 5)
		}
	}
}

func TestConfigRefusesOtherWords(t *testing.T) {
	words := []string{"", " ", "a", "caps", "ca", "seg", "segbytes", "SegBytes", "segments", "segmentsegment", "indexevery", "indices", "snap", "snapshots",
		"ſegment", "ſnapshot", "snapſhot", "ındex", "İndex", "ｃａｐ", "CАP", "саp", "capacity", "default", "config", "世", "\x00", "\ufffd", "7",
		"\xe7ap", "s\xc5\xbfegment", "@AP", "c`p", "\x03ap", "c!p", strings.Repeat("segment", 1<<16)}
	for _, f := range fields {
		for _, s := range []string{" ", "\x00", "\n", "s", "\u0301", "\xff", "\ufffd", "=", "."} {
			words = append(words, f.name+s, s+f.name, f.name[:2]+s+f.name[2:])
		}
		for k := range len(f.name) {
			words = append(words, f.name[:k], f.name[:k]+f.name[k+1:], f.name[:k]+"\xff"+f.name[k+1:], f.name[:k]+"\x20"+f.name[k+1:])
			// The same letter, but for one bit of it that is not the one between small and great.
			for bit := range 8 {
				if bit != 5 {
					word := []byte(f.name)
					word[k] ^= 1 << bit
					words = append(words, string(word))
				}
			}
		}
	}
	for _, s := range words {
		for _, v := range []any{7, int64(7), 'a', "abc", 0, -1, nil, 1.5} {
			refused(t, api.ErrArg, s, v)
		}
		refused(t, api.ErrArg, s)
	}
}

func TestConfigRefusesMissingValues(t *testing.T) {
	for _, f := range fields {
		refused(t, api.ErrArg, f.name)
		refused(t, api.ErrArg, strings.ToUpper(f.name))
		refused(t, api.ErrArg, all, f.name)
		refused(t, api.ErrArg, "segment", 64, f.name)
		refused(t, api.ErrArg, f.name, 64, f.name)
		refused(t, api.ErrArg, f.name, f.name, f.name)
	}
}

func TestConfigRefusesWrongTypes(t *testing.T) {
	wrong := append(strangers(), true, false)
	for _, v := range wrong {
		refused(t, api.ErrArg, v)
		refused(t, api.ErrArg, v, 7)
		refused(t, api.ErrArg, all, v)
		refused(t, api.ErrArg, v, all)
		refused(t, api.ErrArg, "cap", 7, v)
		refused(t, api.ErrArg, v, "cap", 7)
		for _, f := range fields {
			refused(t, api.ErrArg, f.name, v)
			refused(t, api.ErrArg, f.name, v, f.name, 7)
		}
	}
	for _, n := range []any{7, int64(7), 'a'} {
		refused(t, api.ErrArg, n)
		refused(t, api.ErrArg, n, n)
		refused(t, api.ErrArg, n, "cap")
		refused(t, api.ErrArg, "cap", n, n)
		refused(t, api.ErrArg, all, n)
	}
	// A configuration is no number, and one behind a word is its value.
	refused(t, api.ErrArg, "cap", all)
	refused(t, api.ErrArg, "cap", all, 7)
	refused(t, api.ErrArg, "cap", all, "cap", 7)
}

func TestConfigReplacesWhole(t *testing.T) {
	configIs(t, all, all)
	configIs(t, all, Default(), all)
	configIs(t, Default(), all, Default())
	configIs(t, all, "segment", 1, "index", 2, "snapshot", 3, "cap", 4, all)
	configIs(t, api.Config{SegBytes: 1, IndexEvery: 2, SnapEvery: 3, Cap: 4}, all, "segment", 1, "index", 2, "snapshot", 3, "cap", 4)
	for i, f := range fields {
		configIs(t, all, f.name, 5, all)
		configIs(t, with(all, i, 5), all, f.name, 5)
		configIs(t, with(all, i, 6), f.name, 5, all, f.name, 6)
		configIs(t, with(Default(), i, 5), all, f.name, 6, Default(), f.name, 5)
	}
}

func TestConfigTakesTheLastOfAField(t *testing.T) {
	for i, f := range fields {
		configIs(t, with(Default(), i, 6), f.name, 5, f.name, 6)
		configIs(t, with(Default(), i, 6), f.name, 5, strings.ToUpper(f.name), 6)
		configIs(t, with(Default(), i, 1<<30), f.name, 1, f.name, 2, f.name, 1<<30)
		for k, g := range fields {
			if i != k {
				configIs(t, with(with(Default(), i, 6), k, 7), f.name, 5, g.name, 7, f.name, 6)
			}
		}
	}
	// A word that stands where a value does is counted, not read as a field's name.
	configIs(t, with(Default(), 0, 7), "segment", "segment")
	configIs(t, with(with(Default(), 0, 7), 1, 5), "segment", "segment", "index", 5)
	configIs(t, with(with(Default(), 0, 5), 1, 3), "segment", "index", "index", "cap")
	configIs(t, with(Default(), 3, 8), "cap", "snapshot")
}

func TestConfigOfEdgesInWholeConfigurations(t *testing.T) {
	for i := range fields {
		for _, n := range []int{1, 2, 1<<30 - 1, 1 << 30} {
			configIs(t, with(all, i, n), with(all, i, n))
		}
		for _, n := range []int{0, -1, -5, math.MinInt32, math.MinInt, 1<<30 + 1, math.MaxInt32, math.MaxInt} {
			refused(t, api.ErrLong, with(all, i, n))
		}
	}
	refused(t, api.ErrLong, api.Config{})
	refused(t, api.ErrLong, all, api.Config{})
}

// A value out of range is an error only if the result still has it.
func TestConfigJudgesTheResult(t *testing.T) {
	for i, f := range fields {
		for _, n := range []any{0, -1, 1<<30 + 1, int64(math.MinInt64), int64(math.MaxInt64), int64(1<<32 + 5), ""} {
			refused(t, api.ErrLong, f.name, n)
			refused(t, api.ErrLong, all, f.name, n)
			refused(t, api.ErrLong, f.name, 5, f.name, n)
			configIs(t, with(Default(), i, 5), f.name, n, f.name, 5)
			configIs(t, all, f.name, n, all)
			for _, g := range fields {
				if g.name != f.name {
					refused(t, api.ErrLong, f.name, n, g.name, 5)
				}
			}
		}
		configIs(t, with(all, i, 5), with(all, i, 0), f.name, 5)
		configIs(t, all, with(all, i, 0), all)
	}
	refused(t, api.ErrLong, api.Config{}, "segment", 1, "index", 1, "snapshot", 1)
	configIs(t, api.Config{SegBytes: 1, IndexEvery: 1, SnapEvery: 1, Cap: 1}, api.Config{}, "segment", 1, "index", 1, "snapshot", 1, "cap", 1)
}

// ErrArg is ahead of ErrLong, wherever the two stand.
func TestConfigErrorsInOrder(t *testing.T) {
	for _, f := range fields {
		for _, long := range [][]any{{f.name, 0}, {f.name, 1<<30 + 1}, {api.Config{}}} {
			for _, wrong := range [][]any{{7}, {nil}, {"x", 1}, {f.name, 1.5}, {f.name, nil}} {
				refused(t, api.ErrArg, slices.Concat(long, wrong)...)
				refused(t, api.ErrArg, slices.Concat(wrong, long)...)
				refused(t, api.ErrArg, slices.Concat(long, []any{all}, wrong)...)
			}
			refused(t, api.ErrArg, slices.Concat(long, []any{f.name})...)
			refused(t, api.ErrArg, slices.Concat(long, []any{f.name, 5, f.name})...)
		}
	}
}

// expected computes Config in another way: the types by their names, the fields in a map, the errors in two rounds.
func expected(l []any) (api.Config, api.Errno) {
	got := map[string]int64{"segment": 1024, "index": 128, "snapshot": 4, "cap": 1 << 20}
	for i := 0; i < len(l); i++ {
		switch reflect.TypeOf(l[i]) {
		case reflect.TypeFor[api.Config]():
			c := reflect.ValueOf(l[i])
			for k, f := range fields {
				got[f.name] = c.Field(k).Int()
			}
			continue
		case reflect.TypeFor[string]():
		default:
			return api.Config{}, api.ErrArg
		}
		word := strings.ToLower(l[i].(string))
		if _, ok := got[word]; !ok || i+1 == len(l) {
			return api.Config{}, api.ErrArg
		}
		i++
		switch v := reflect.ValueOf(l[i]); fmt.Sprintf("%T", l[i]) {
		case "int", "int32", "int64":
			got[word] = v.Int()
		case "string":
			got[word] = int64(len([]rune(v.String())))
		default:
			return api.Config{}, api.ErrArg
		}
	}
	var c api.Config
	for _, f := range fields {
		n := got[f.name]
		if n < 1 || n > 1<<30 {
			return api.Config{}, api.ErrLong
		}
		*f.of(&c) = int(n)
	}
	return c, api.OK
}

// Every list of up to five of these elements.
func TestConfigOfEveryShortList(t *testing.T) {
	elements := []any{"segment", "Cap", "INDEX", "snapShot", "世", 0, 9, int64(1 << 30), int64(1<<30 + 1), 'a', all, api.Config{}, nil, true}
	var try func(l []any, more int)
	try = func(l []any, more int) {
		want, why := expected(l)
		if got, is := Config(l...); got != want || is != why {
			t.Fatalf("P4.2: Config of %v: %v, %d, want %v, %d", l, got, is, want, why)
		}
		if more == 0 {
			return
		}
		for _, v := range elements {
			try(append(slices.Clip(l), v), more-1)
		}
	}
	try(nil, 5)
}

func TestConfigOfLongLists(t *testing.T) {
	var l []any
	for i := range 100000 {
		l = append(l, fields[i%4].name, i+1)
	}
	want := api.Config{SegBytes: 99997, IndexEvery: 99998, SnapEvery: 99999, Cap: 100000}
	if got, why := Config(l...); got != want || why != api.OK {
		t.Errorf("P4.2: Config of 100000 words: %v, %d", got, why)
	}
	if got, why := Config(append(l, "cap")...); got != (api.Config{}) || why != api.ErrArg {
		t.Errorf("P4.2: Config of 100000 words and one without a value: %v, %d", got, why)
	}
}

// R2 and R5: the list is the same behind the call, and what stands behind its end is neither read nor written.
func TestConfigLeavesItsList(t *testing.T) {
	whole := []any{"Segment", "世a", all, "cap", 7, 1.5}
	for n := range len(whole) + 1 {
		l := slices.Clone(whole)
		got, why := Config(l[:n]...)
		want, is := expected(whole[:n])
		if got != want || why != is {
			t.Errorf("R5: Config of the first %d of %v: %v, %d, want %v, %d", n, whole, got, why, want, is)
		}
		if !slices.Equal(l, whole) {
			t.Errorf("R2: the list behind Config of its first %d elements: %v", n, l)
		}
	}
}

// R4: an answer hangs on nothing but its arguments.
func TestConfigKeepsNothing(t *testing.T) {
	configIs(t, with(Default(), 3, 7), "cap", 7)
	refused(t, api.ErrLong, "segment", 0)
	refused(t, api.ErrArg, "segment", 5, 7)
	configIs(t, Default())
	l := []any{"cap", 7, all}
	c, _ := Config(l...)
	l[2] = Default()
	if c != all {
		t.Errorf("R2: the answer changed with the list: %v", c)
	}
}
