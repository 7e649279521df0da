package files

import (
	"fmt"
	"math"
	"slices"
	"strings"
	"testing"

	"bordereau/api"
)

// step is a call, what it is to answer, and what is there behind it: see state.
type step struct {
	what  string
	f     func(f *FS) api.Errno
	want  api.Errno
	state string
	deeds int
}

// These make calls of deeds.

func add(file, b string) func(f *FS) api.Errno {
	return func(f *FS) api.Errno { return f.Append(file, []byte(b)) }
}

func cut(file string, n int) func(f *FS) api.Errno {
	return func(f *FS) api.Errno { return f.Truncate(file, n) }
}

func rename(a, b string) func(f *FS) api.Errno {
	return func(f *FS) api.Errno { return f.Rename(a, b) }
}

func remove(file string) func(f *FS) api.Errno {
	return func(f *FS) api.Errno { return f.Remove(file) }
}

func keep(file string) func(f *FS) api.Errno {
	return func(f *FS) api.Errno { return f.Sync(file) }
}

// These make calls that are no deeds.

func stop(n int) func(f *FS) api.Errno {
	return func(f *FS) api.Errno {
		f.Stop(n)
		return api.OK
	}
}

func crash(keeps []int64, garble []byte) func(f *FS) api.Errno {
	return func(f *FS) api.Errno {
		f.Crash(keeps, garble)
		return api.OK
	}
}

// look asks for everything that can be asked for.
func look(f *FS) api.Errno {
	for _, file := range append(f.List(), "a", "none", "NONE") {
		f.Read(file)
		f.Len(file)
	}
	f.Deeds()
	f.Copy()
	return api.OK
}

// all returns the bytes of a file, and fails the test unless Read and Len agree that it is there.
func all(t *testing.T, f *FS, file string) string {
	t.Helper()
	b, ok := f.Read(file)
	if !ok || f.Len(file) != len(b) {
		t.Fatalf("P7.1: Read of %q: %d bytes, %v; Len: %d", file, len(b), ok, f.Len(file))
	}
	return string(b)
}

// state returns the files as text: in the order of List, each with its durable bytes, a bar, and its pending bytes.
// What is durable is what a copy has left behind a crash that keeps nothing.
func state(t *testing.T, f *FS) string {
	t.Helper()
	l := f.List()
	x := f.Copy()
	x.Crash(nil, nil)
	if !slices.Equal(x.List(), l) {
		t.Fatalf("P7.2: the files %q of a copy behind a crash, want %q", x.List(), l)
	}
	var out []string
	for _, file := range l {
		whole, durable := all(t, f, file), all(t, x, file)
		pending, ok := strings.CutPrefix(whole, durable)
		if !ok {
			t.Fatalf("P7.2: %q has %q, and %q behind a crash", file, whole, durable)
		}
		out = append(out, file+"="+durable+"|"+pending)
	}
	return strings.Join(out, " ")
}

// stateIs fails the test unless that is there, and so many deeds were performed.
func stateIs(t *testing.T, what string, f *FS, want string, deeds int) {
	t.Helper()
	if got := state(t, f); got != want {
		t.Errorf("%s: %q, want %q", what, got, want)
	}
	if got := f.Deeds(); got != deeds {
		t.Errorf("%s: %d deeds, want %d", what, got, deeds)
	}
}

// run makes the calls one after the other.
func run(t *testing.T, promise string, f *FS, l []step) {
	t.Helper()
	for i, s := range l {
		what := fmt.Sprintf("%s: step %d, %s", promise, i, s.what)
		if why := s.f(f); why != s.want {
			t.Errorf("%s: %d, want %d", what, int(why), int(s.want))
		}
		stateIs(t, what, f, s.state, s.deeds)
	}
}

// made returns a new file system on which these calls were made.
func made(l ...func(f *FS) api.Errno) *FS {
	f := New()
	for _, x := range l {
		x(f)
	}
	return f
}

// filled returns a file system with so many files, named f00, f01 and on, each holding its name.
func filled(n int) *FS {
	f := New()
	for i := range n {
		s := fmt.Sprintf("f%02d", i)
		f.Append(s, []byte(s))
	}
	return f
}

// notThere fails the test unless the file is none.
func notThere(t *testing.T, f *FS, file string) {
	t.Helper()
	if b, ok := f.Read(file); len(b) > 0 || ok {
		t.Errorf("P7.1: Read of %q, which does not exist: %q, %v", file, b, ok)
	}
	if n := f.Len(file); n != 0 {
		t.Errorf("P7.1: Len of %q, which does not exist: %d", file, n)
	}
}

// wrongNames are texts that no file may be named.
func wrongNames() []string {
	return []string{"", "A", "start.New", "a b", "a/b", "\x00", "é", "\u00ff", "\ufffd", "\xff", "a\xff", "世\xe4\xb8", "+",
		strings.Repeat("a", 41), strings.Repeat("世", 41), strings.Repeat("a", 100000)}
}

func TestNew(t *testing.T) {
	f := New()
	stateIs(t, "P7.1: New", f, "", 0)
	if l := f.List(); len(l) > 0 {
		t.Errorf("P7.1: List of a new file system: %q", l)
	}
	for _, file := range append(wrongNames(), "a", "start", "世") {
		notThere(t, f, file)
	}
	f.Append("a", []byte("x"))
	stateIs(t, "P7.1: New while another one has files", New(), "", 0)
}

func TestAppend(t *testing.T) {
	run(t, "P7.1", New(), []step{
		{"a new file", add("b", "one"), api.OK, "b=|one", 1},
		{"more of it", add("b", "two"), api.OK, "b=|onetwo", 2},
		{"no bytes to it", add("b", ""), api.OK, "b=|onetwo", 3},
		{"a new file, no bytes", add("a", ""), api.OK, "a=| b=|onetwo", 4},
		{"no bytes again", add("a", ""), api.OK, "a=| b=|onetwo", 5},
		{"bytes to it", add("a", "\x00"), api.OK, "a=|\x00 b=|onetwo", 6},
		{"a synced file", keep("b"), api.OK, "a=|\x00 b=onetwo|", 7},
		{"more of a synced file", add("b", "!"), api.OK, "a=|\x00 b=onetwo|!", 8},
		{"no bytes to a synced file", add("b", ""), api.OK, "a=|\x00 b=onetwo|!", 9},
	})
}

func TestAppendOfNoBytes(t *testing.T) {
	for _, b := range [][]byte{nil, {}, make([]byte, 0, 9)} {
		f := New()
		if why := f.Append("a", b); why != api.OK {
			t.Errorf("P7.1: Append of no bytes: %d", int(why))
		}
		stateIs(t, "R4: Append of no bytes", f, "a=|", 1)
	}
}

func TestAppendRefusesNames(t *testing.T) {
	f := made(add("a", "x"), stop(1))
	for _, file := range wrongNames() {
		for _, b := range []string{"", "x"} {
			if why := f.Append(file, []byte(b)); why != api.ErrArg {
				t.Errorf("P7.1: Append to %q: %d", file, int(why))
			}
		}
		notThere(t, f, file)
	}
	stateIs(t, "P7.1: behind refused names", f, "a=|x", 1)
	f.Append("a", []byte("y"))
	stateIs(t, "P7.1: refused names are no deeds", f, "a=|xy", 2)
}

func TestAppendToEdgesOfNames(t *testing.T) {
	for _, file := range []string{".", "..", "-", "_", "0", "z", "\u0100", "\U0001f600", "\ufffe", strings.Repeat("a", 40), strings.Repeat("世", 40), "00000000000000000007.log"} {
		f := New()
		if why := f.Append(file, []byte("x")); why != api.OK || all(t, f, file) != "x" || !slices.Equal(f.List(), []string{file}) {
			t.Errorf("P7.1: Append to %q: %d, %q", file, int(why), f.List())
		}
	}
}

func TestAppendMuch(t *testing.T) {
	f, want := New(), ""
	for n := range 300 {
		b := strings.Repeat(string(rune('a'+n%26)), n)
		if why := f.Append("a", []byte(b)); why != api.OK {
			t.Fatalf("P7.1: Append of %d bytes: %d", n, int(why))
		}
		want += b
		if got := all(t, f, "a"); got != want {
			t.Fatalf("P7.1: %d bytes behind %d calls of Append, want %d", len(got), n+1, len(want))
		}
	}
}

func TestAppendOfEveryByte(t *testing.T) {
	f, want := New(), ""
	for x := range 256 {
		f.Append("a", []byte{byte(x)})
		want += string([]byte{byte(x)})
	}
	f.Crash([]int64{256}, nil)
	if got := all(t, f, "a"); got != want {
		t.Errorf("P7.1: %q", got)
	}
}

func TestMaxFiles(t *testing.T) {
	f := filled(api.MaxFiles - 1)
	if why := f.Append("last", nil); why != api.OK || len(f.List()) != 64 {
		t.Errorf("P7.1: Append to the file number MaxFiles: %d, %d files", int(why), len(f.List()))
	}
	want, deeds := state(t, f), f.Deeds()
	for _, b := range []string{"", "x"} {
		if why := f.Append("more", []byte(b)); why != api.ErrFull {
			t.Errorf("P7.1: Append to one file more: %d", int(why))
		}
		for _, file := range wrongNames() {
			if why := f.Append(file, []byte(b)); why != api.ErrArg {
				t.Errorf("P7.1: Append to %q, and there are MaxFiles files: %d", file, int(why))
			}
		}
	}
	notThere(t, f, "more")
	stateIs(t, "P7.1: behind a refused file", f, want, deeds)
	for _, file := range f.List() {
		before := all(t, f, file)
		if why := f.Append(file, []byte("!")); why != api.OK || all(t, f, file) != before+"!" {
			t.Errorf("P7.1: Append to %q, one of MaxFiles: %d", file, int(why))
		}
	}
}

// With MaxFiles files, each of these makes room for one more, or for none.
func TestRoomAmongMaxFiles(t *testing.T) {
	for _, c := range []struct {
		what string
		f    func(f *FS) api.Errno
		want api.Errno
	}{
		{"nothing", look, api.ErrFull},
		{"a file removed", remove("f07"), api.OK},
		{"a file renamed onto another one", rename("f07", "f08"), api.OK},
		{"a file renamed onto itself", rename("f07", "f07"), api.ErrFull},
		{"a file with a new name", rename("f07", "new"), api.ErrFull},
		{"an empty file", cut("f07", 0), api.ErrFull},
		{"a crash", crash(nil, nil), api.ErrFull},
		{"nothing removed", remove("none"), api.ErrFull},
	} {
		f := filled(api.MaxFiles)
		c.f(f)
		if why := f.Append("more", []byte("x")); why != c.want || slices.Contains(f.List(), "more") != (c.want == api.OK) {
			t.Errorf("P7.1: Append to one file more, behind %s: %d", c.what, int(why))
		}
		if why := f.Append("again", nil); why != api.ErrFull {
			t.Errorf("P7.1: Append to two files more, behind %s: %d", c.what, int(why))
		}
	}
	f := filled(api.MaxFiles)
	f.Rename("f07", "new")
	if f.Append("f07", nil) != api.ErrFull || f.Append("new", nil) != api.OK || f.Copy().Append("more", nil) != api.ErrFull {
		t.Error("P7.1: a file that was renamed is still one of MaxFiles")
	}
}

func TestTruncate(t *testing.T) {
	run(t, "P7.1", made(add("a", "abcde"), add("b", "x")), []step{
		{"one more than the length", cut("a", 6), api.ErrArg, "a=|abcde b=|x", 2},
		{"-1", cut("a", -1), api.ErrArg, "a=|abcde b=|x", 2},
		{"a great number", cut("a", math.MaxInt), api.ErrArg, "a=|abcde b=|x", 2},
		{"a small number", cut("a", math.MinInt), api.ErrArg, "a=|abcde b=|x", 2},
		{"the length", cut("a", 5), api.OK, "a=abcde| b=|x", 3},
		{"the length again", cut("a", 5), api.OK, "a=abcde| b=|x", 4},
		{"more bytes", add("a", "fgh"), api.OK, "a=abcde|fgh b=|x", 5},
		{"among the pending bytes", cut("a", 6), api.OK, "a=abcdef| b=|x", 6},
		{"what was the length", cut("a", 8), api.ErrArg, "a=abcdef| b=|x", 6},
		{"more bytes again", add("a", "gh"), api.OK, "a=abcdef|gh b=|x", 7},
		{"the durable bytes", cut("a", 6), api.OK, "a=abcdef| b=|x", 8},
		{"and more again", add("a", "gh"), api.OK, "a=abcdef|gh b=|x", 9},
		{"among the durable bytes", cut("a", 2), api.OK, "a=ab| b=|x", 10},
		{"other bytes", add("a", "XYZ"), api.OK, "a=ab|XYZ b=|x", 11},
		{"0", cut("a", 0), api.OK, "a=| b=|x", 12},
		{"0 again", cut("a", 0), api.OK, "a=| b=|x", 13},
		{"1 of none", cut("a", 1), api.ErrArg, "a=| b=|x", 13},
		{"-1 of none", cut("a", -1), api.ErrArg, "a=| b=|x", 13},
		{"behind all that", add("a", "q"), api.OK, "a=|q b=|x", 14},
	})
}

func TestTruncateOfNone(t *testing.T) {
	f := made(add("a", "abc"))
	for _, file := range append(wrongNames(), "none", "a.", "aa") {
		for _, n := range []int{0, 1, 3, -1, math.MaxInt, math.MinInt} {
			if why := f.Truncate(file, n); why != api.ErrNone {
				t.Errorf("P7.1: Truncate of %q, which does not exist, to %d: %d", file, n, int(why))
			}
		}
	}
	stateIs(t, "P7.1: behind Truncate of none", f, "a=|abc", 1)
}

func TestRename(t *testing.T) {
	run(t, "P7.1", made(add("a", "aa"), keep("a"), add("a", "AA"), add("b", "bbbbbb")), []step{
		{"a new name", rename("a", "c"), api.OK, "b=|bbbbbb c=aa|AA", 5},
		{"what is gone", rename("a", "d"), api.ErrNone, "b=|bbbbbb c=aa|AA", 5},
		{"onto a file with no durable bytes", rename("c", "b"), api.OK, "b=aa|AA", 6},
		{"onto itself", rename("b", "b"), api.OK, "b=aa|AA", 7},
		{"a file of the old name", add("c", "cc"), api.OK, "b=aa|AA c=|cc", 8},
		{"onto a file with durable bytes", rename("c", "b"), api.OK, "b=|cc", 9},
		{"synced", keep("b"), api.OK, "b=cc|", 10},
		{"a synced one onto itself", rename("b", "b"), api.OK, "b=cc|", 11},
		{"another script", rename("b", "世"), api.OK, "世=cc|", 12},
		{"no such file, onto itself", rename("b", "b"), api.ErrNone, "世=cc|", 12},
		{"no such file, onto one that is there", rename("b", "世"), api.ErrNone, "世=cc|", 12},
		{"more of it", add("世", "d"), api.OK, "世=cc|d", 13},
		{"what has its old name is another file", add("b", "e"), api.OK, "b=|e 世=cc|d", 14},
		{"an empty file onto it", add("a", ""), api.OK, "a=| b=|e 世=cc|d", 15},
		{"which replaces it", rename("a", "世"), api.OK, "b=|e 世=|", 16},
	})
}

// A file that was renamed is not held by its old name, nor by that of the file that it replaced.
func TestRenamedFilesAreApart(t *testing.T) {
	f := made(add("a", "a"), add("b", "b"), rename("a", "b"), add("a", "x"), add("b", "y"))
	stateIs(t, "P7.1: Rename, then Append to both", f, "a=|x b=|ay", 5)
	f = made(add("a", "a"), rename("a", "b"), rename("b", "c"), rename("c", "a"), keep("a"))
	stateIs(t, "P7.1: Rename round", f, "a=a|", 5)
}

func TestRenameRefuses(t *testing.T) {
	f := made(add("a", "abc"), stop(1))
	for _, b := range wrongNames() {
		if why := f.Rename("a", b); why != api.ErrArg {
			t.Errorf("P7.1: Rename to %q: %d", b, int(why))
		}
		if why := f.Rename("none", b); why != api.ErrNone {
			t.Errorf("P7.1: Rename of none to %q: %d", b, int(why))
		}
		for _, to := range []string{"a", "new", b, "B"} {
			if why := f.Rename(b, to); why != api.ErrNone {
				t.Errorf("P7.1: Rename of %q, which does not exist, to %q: %d", b, to, int(why))
			}
		}
	}
	stateIs(t, "P7.1: behind refused names", f, "a=|abc", 1)
	f.Rename("a", "b")
	stateIs(t, "P7.1: refused names are no deeds", f, "b=|abc", 2)
}

func TestRemove(t *testing.T) {
	run(t, "P7.1", made(add("a", "aa"), keep("a"), add("a", "AA"), add("b", "bb")), []step{
		{"a file", remove("a"), api.OK, "b=|bb", 5},
		{"a file that is gone", remove("a"), api.ErrNone, "b=|bb", 5},
		{"behind a crash it is still gone", crash([]int64{2, 2}, nil), api.OK, "b=bb|", 5},
		{"a new file of its name has no bytes of it", add("a", "x"), api.OK, "a=|x b=bb|", 6},
		{"the last ones", remove("b"), api.OK, "a=|x", 7},
		{"the very last one", remove("a"), api.OK, "", 8},
		{"nothing", remove("a"), api.ErrNone, "", 8},
		{"something again", add("b", "y"), api.OK, "b=|y", 9},
	})
}

func TestSync(t *testing.T) {
	run(t, "P7.1", made(add("a", "aa"), add("b", "bb")), []step{
		{"one of two", keep("a"), api.OK, "a=aa| b=|bb", 3},
		{"it again", keep("a"), api.OK, "a=aa| b=|bb", 4},
		{"more of it", add("a", "AA"), api.OK, "a=aa|AA b=|bb", 5},
		{"and synced", keep("a"), api.OK, "a=aaAA| b=|bb", 6},
		{"the other one", keep("b"), api.OK, "a=aaAA| b=bb|", 7},
		{"an empty file", add("c", ""), api.OK, "a=aaAA| b=bb| c=|", 8},
		{"which is synced", keep("c"), api.OK, "a=aaAA| b=bb| c=|", 9},
		{"and has bytes then", add("c", "c"), api.OK, "a=aaAA| b=bb| c=|c", 10},
	})
}

func TestRemoveAndSyncOfNone(t *testing.T) {
	f := made(add("a", "abc"), stop(1))
	for _, file := range append(wrongNames(), "none", "a.", "aa") {
		if why := f.Remove(file); why != api.ErrNone {
			t.Errorf("P7.1: Remove of %q, which does not exist: %d", file, int(why))
		}
		if why := f.Sync(file); why != api.ErrNone {
			t.Errorf("P7.1: Sync of %q, which does not exist: %d", file, int(why))
		}
		notThere(t, f, file)
	}
	stateIs(t, "P7.1: behind Remove and Sync of none", f, "a=|abc", 1)
	f.Sync("a")
	stateIs(t, "P7.1: and these were no deeds", f, "a=abc|", 2)
}

// ordered are names in the order of name.Less.
func ordered() []string {
	return []string{"-", "-a", ".", "..", "0", "00000000000000000007.log", "00000000000000000010.index", "00000000000000000010.log", "1", "10", "2",
		"_", "a", "a.", "a0", "aa", "aā", "b", "clean", "start", "start.new", "z", "zz", "\u0100", "世", "世a", "世界", "\ufffc", "\ufffe", "\U00010000", "\U0001f600"}
}

func TestList(t *testing.T) {
	want := ordered()
	n := len(want)
	// Each of the factors has no divisor in common with the length, so that every name comes once.
	for _, step := range []int{1, n - 1, 2, 7, 12} {
		f := New()
		for i := range n {
			f.Append(want[i*step%n], nil)
		}
		for range 3 {
			if got := f.List(); !slices.Equal(got, want) {
				t.Fatalf("P7.1: List of names appended by steps of %d: %q", step, got)
			}
		}
		f.Remove("a")
		f.Rename("10", "世b")
		less := slices.DeleteFunc(slices.Clone(want), func(s string) bool { return s == "a" || s == "10" })
		less = slices.Insert(less, slices.Index(less, "世界"), "世b")
		if got := f.List(); !slices.Equal(got, less) {
			t.Fatalf("P7.1: List behind Remove and Rename: %q", got)
		}
	}
}

func TestListOfMaxFiles(t *testing.T) {
	f := New()
	var want []string
	for i := range api.MaxFiles {
		f.Append(fmt.Sprintf("%02d", i*37%api.MaxFiles), nil)
		want = append(want, fmt.Sprintf("%02d", i))
	}
	if got := f.List(); !slices.Equal(got, want) {
		t.Errorf("P7.1: List of MaxFiles files: %q", got)
	}
}

// The deeds of each kind that have an effect on this state, and those that have none.
const before = "a=a|A b=bb| c=|"

func ready() *FS {
	return made(add("a", "a"), keep("a"), add("a", "A"), add("b", "bb"), keep("b"), add("c", ""))
}

func deedsOfReady() map[string]func(f *FS) api.Errno {
	return map[string]func(f *FS) api.Errno{
		"Append":                   add("a", "x"),
		"Append to a new file":     add("d", "x"),
		"Append of no bytes":       add("b", ""),
		"a new file, no bytes":     add("e", ""),
		"Truncate":                 cut("a", 1),
		"Truncate to the length":   cut("a", 2),
		"Truncate of durable ones": cut("b", 2),
		"Rename":                   rename("a", "d"),
		"Rename onto a file":       rename("a", "b"),
		"Rename onto itself":       rename("a", "a"),
		"Remove":                   remove("a"),
		"Sync":                     keep("a"),
		"Sync of what is synced":   keep("b"),
	}
}

func TestStopOfEveryDeed(t *testing.T) {
	for what, deed := range deedsOfReady() {
		free := ready()
		deed(free)
		want := state(t, free)
		if free.Deeds() != 7 {
			t.Errorf("P7.1: %s: %d deeds, want 7", what, free.Deeds())
		}
		f := ready()
		f.Stop(0)
		for range 3 {
			if why := deed(f); why != api.OK {
				t.Errorf("P7.1: %s behind Stop(0): %d", what, int(why))
			}
			stateIs(t, "P7.1: Stop(0), "+what, f, before, 6)
		}
		f.Stop(1)
		deed(f)
		stateIs(t, "P7.1: Stop(1), "+what, f, want, 7)
		f.Append("c", []byte("late"))
		stateIs(t, "P7.1: one deed behind Stop(1), which is "+what, f, want, 7)
	}
}

func TestStop(t *testing.T) {
	run(t, "P7.1", New(), []step{
		{"Stop(2) of a new one", stop(2), api.OK, "", 0},
		{"an error", add("A", "x"), api.ErrArg, "", 0},
		{"another error", remove("a"), api.ErrNone, "", 0},
		{"the first deed", add("a", "one"), api.OK, "a=|one", 1},
		{"errors", cut("a", 4), api.ErrArg, "a=|one", 1},
		{"more errors", rename("a", "A"), api.ErrArg, "a=|one", 1},
		{"questions", look, api.OK, "a=|one", 1},
		{"the second deed", keep("a"), api.OK, "a=one|", 2},
		{"the third one", add("a", "two"), api.OK, "a=one|", 2},
		{"a new file", add("b", "x"), api.OK, "a=one|", 2},
		{"which is not there", keep("b"), api.ErrNone, "a=one|", 2},
		{"nor to be cut", cut("b", 0), api.ErrNone, "a=one|", 2},
		{"nor to be renamed", rename("b", "c"), api.ErrNone, "a=one|", 2},
		{"nor to be removed", remove("b"), api.ErrNone, "a=one|", 2},
		{"a cut", cut("a", 1), api.OK, "a=one|", 2},
		{"which was none", cut("a", 3), api.OK, "a=one|", 2},
		{"longer than it is", cut("a", 4), api.ErrArg, "a=one|", 2},
		{"a new name", rename("a", "b"), api.OK, "a=one|", 2},
		{"removed", remove("a"), api.OK, "a=one|", 2},
		{"and again", remove("a"), api.OK, "a=one|", 2},
		{"a wrong name", add("A", ""), api.ErrArg, "a=one|", 2},
		{"Stop(1)", stop(1), api.OK, "a=one|", 2},
		{"one deed", add("a", "!"), api.OK, "a=one|!", 3},
		{"no more", keep("a"), api.OK, "a=one|!", 3},
		{"Stop(-1)", stop(-1), api.OK, "a=one|!", 3},
		{"a deed", keep("a"), api.OK, "a=one!|", 4},
		{"one more", add("a", "?"), api.OK, "a=one!|?", 5},
		{"Stop(5)", stop(5), api.OK, "a=one!|?", 5},
		{"Stop(0) ends it", stop(0), api.OK, "a=one!|?", 5},
		{"no deed", add("a", "#"), api.OK, "a=one!|?", 5},
		{"Crash ends a Stop", crash([]int64{9}, nil), api.OK, "a=one!?|", 5},
		{"a deed behind it", add("a", "#"), api.OK, "a=one!?|#", 6},
		{"and more", keep("a"), api.OK, "a=one!?#|", 7},
		{"Stop(1) again", stop(1), api.OK, "a=one!?#|", 7},
		{"Crash ahead of its end", crash(nil, nil), api.OK, "a=one!?#|", 7},
		{"the first deed behind it", remove("a"), api.OK, "", 8},
		{"the second one", add("b", "x"), api.OK, "b=|x", 9},
	})
}

func TestStopOfNumbers(t *testing.T) {
	for _, n := range []int{math.MinInt, math.MinInt + 1, -7, -1, 0, 1, 2, 3, 19, 20, 21, 1 << 31, math.MaxInt - 1, math.MaxInt} {
		// A stop that is over, one that has begun, and none ahead of it.
		for _, ahead := range []int{0, 2, -1} {
			f := made(add("a", ""), stop(ahead), stop(n))
			for range 20 {
				if why := f.Append("a", []byte("x")); why != api.OK {
					t.Fatalf("P7.1: Append behind Stop(%d): %d", n, int(why))
				}
			}
			want := 20
			if n >= 0 {
				want = min(n, 20)
			}
			stateIs(t, fmt.Sprintf("P7.1: Stop(%d), Stop(%d) and 20 deeds", ahead, n), f, "a=|"+strings.Repeat("x", want), 1+want)
		}
	}
}

// A stop tells nothing of itself: the errors are those of the files as they are.
func TestStopAmongMaxFiles(t *testing.T) {
	f := filled(api.MaxFiles)
	f.Stop(0)
	want := state(t, f)
	if f.Append("more", nil) != api.ErrFull || f.Append("More", nil) != api.ErrArg || f.Remove("f00") != api.OK || f.Append("more", nil) != api.ErrFull || f.Append("f00", nil) != api.OK {
		t.Error("P7.1: stopped, with MaxFiles files")
	}
	stateIs(t, "P7.1: stopped, with MaxFiles files", f, want, 64)
	f = filled(api.MaxFiles - 1)
	f.Stop(0)
	want = state(t, f)
	if f.Append("more", nil) != api.OK || f.Append("again", nil) != api.OK || f.Append("more", nil) != api.OK {
		t.Error("P7.1: stopped, with one file less than MaxFiles")
	}
	stateIs(t, "P7.1: stopped, with one file less than MaxFiles", f, want, 63)
}

func TestDeeds(t *testing.T) {
	f := New()
	for n := range 1000 {
		if got := f.Deeds(); got != n {
			t.Fatalf("P7.1: Deeds: %d, want %d", got, n)
		}
		f.Append("A", nil)
		f.Remove("a")
		f.Append("b", []byte("x"))
		look(f)
	}
	f.Stop(0)
	f.Crash(nil, nil)
	f.Stop(-1)
	if got := f.Deeds(); got != 1000 {
		t.Errorf("P7.1: Deeds behind Stop and Crash: %d, want 1000", got)
	}
}

func TestExamples(t *testing.T) {
	f := made(add("a", "xy"), crash([]int64{1}, nil))
	stateIs(t, "P7.2: Append(a, xy), Crash with keeps 1", f, "a=x|", 1)
	f = made(add("a", "xy"), keep("a"), crash(nil, nil))
	stateIs(t, "P7.2: Sync, Crash without keeps", f, "a=xy|", 2)
	f = New()
	f.Stop(0)
	if why := f.Append("a", []byte("xy")); why != api.OK {
		t.Errorf("P7.1: Stop(0), Append: %d", int(why))
	}
	stateIs(t, "P7.1: Stop(0), Append", f, "", 0)
}
