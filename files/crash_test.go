package files

import (
	"fmt"
	"math"
	"slices"
	"strings"
	"testing"
	"unsafe"

	"bordereau/api"
)

// mixed returns files with durable and pending bytes, in all mixtures.
func mixed() *FS {
	return made(add("d", "dddd"), cut("d", 3),
		add("a", "aa"), keep("a"), add("a", "AA"),
		add("b", "bbbb"),
		add("c", ""),
		add("x", "fff"), keep("x"), add("x", "F"), rename("x", "f"))
}

// crashIs fails the test unless a crash leaves that, all of it durable.
func crashIs(t *testing.T, f *FS, keeps []int64, garble []byte, want string) {
	t.Helper()
	what := fmt.Sprintf("P7.2: Crash(%d, %d)", keeps, garble)
	deeds := f.Deeds()
	f.Crash(keeps, garble)
	stateIs(t, what, f, want, deeds)
	f.Crash([]int64{0, -1, 9}, []byte{9, 9, 9, 9, 9, 9})
	stateIs(t, what+" and one more", f, want, deeds)
}

func TestMixed(t *testing.T) {
	stateIs(t, "P7.1: before a crash", mixed(), "a=aa|AA b=|bbbb c=| d=ddd| f=fff|F", 11)
}

func TestCrashKeeps(t *testing.T) {
	for _, c := range []struct {
		keeps []int64
		want  string
	}{
		{nil, "a=aa| b=| c=| d=ddd| f=fff|"},
		{[]int64{}, "a=aa| b=| c=| d=ddd| f=fff|"},
		{[]int64{0, 0, 0, 0, 0}, "a=aa| b=| c=| d=ddd| f=fff|"},
		{[]int64{1}, "a=aaA| b=| c=| d=ddd| f=fff|"},
		{[]int64{2}, "a=aaAA| b=| c=| d=ddd| f=fff|"},
		{[]int64{3}, "a=aaAA| b=| c=| d=ddd| f=fff|"},
		{[]int64{0, 1}, "a=aa| b=b| c=| d=ddd| f=fff|"},
		{[]int64{0, 3}, "a=aa| b=bbb| c=| d=ddd| f=fff|"},
		{[]int64{0, 4}, "a=aa| b=bbbb| c=| d=ddd| f=fff|"},
		{[]int64{0, 5}, "a=aa| b=bbbb| c=| d=ddd| f=fff|"},
		{[]int64{0, 0, 9, 9}, "a=aa| b=| c=| d=ddd| f=fff|"},
		{[]int64{0, 0, 0, 0, 1}, "a=aa| b=| c=| d=ddd| f=fffF|"},
		{[]int64{0, 0, 0, 0, 0, 1}, "a=aa| b=| c=| d=ddd| f=fff|"},
		{[]int64{2, 4, 0, 0, 1}, "a=aaAA| b=bbbb| c=| d=ddd| f=fffF|"},
		{[]int64{2, 4, 0, 0, 1, 7, 7}, "a=aaAA| b=bbbb| c=| d=ddd| f=fffF|"},
		{[]int64{-1, -2, -3, -4, -5}, "a=aa| b=| c=| d=ddd| f=fff|"},
		{[]int64{math.MinInt64, 2, math.MinInt64, math.MinInt64, math.MaxInt64}, "a=aa| b=bb| c=| d=ddd| f=fffF|"},
		{[]int64{math.MaxInt64, math.MaxInt64, math.MaxInt64, math.MaxInt64, math.MaxInt64}, "a=aaAA| b=bbbb| c=| d=ddd| f=fffF|"},
		{[]int64{1 << 32, 1<<32 + 1, 1 << 31}, "a=aaAA| b=bbbb| c=| d=ddd| f=fff|"},
		{[]int64{-1 << 32, -1<<32 + 1, -1 << 31}, "a=aa| b=| c=| d=ddd| f=fff|"},
	} {
		crashIs(t, mixed(), c.keeps, nil, c.want)
		crashIs(t, mixed(), c.keeps, []byte{}, c.want)
		crashIs(t, mixed(), c.keeps, make([]byte, 7), c.want)
	}
}

func TestCrashGarbles(t *testing.T) {
	most := []int64{9, 9, 9, 9, 9}
	for _, c := range []struct {
		keeps  []int64
		garble []byte
		want   string
	}{
		// a to z and A to Z differ by 32, and by 1 come @ and `.
		{most, []byte{32}, "a=aaaa| b=bbbb| c=| d=ddd| f=fffF|"},
		{most, []byte{1, 3}, "a=aa@@| b=aaaa| c=| d=ddd| f=fffF|"},
		{most, []byte{0, 3}, "a=aaAA| b=aaaa| c=| d=ddd| f=fffF|"},
		{most, []byte{1, 0, 1}, "a=aa@@| b=bbbb| c=| d=ddd| f=fffF|"},
		{most, []byte{0, 0, 7, 7}, "a=aaAA| b=bbbb| c=| d=ddd| f=fffF|"},
		{most, []byte{0, 0, 0, 0, 32}, "a=aaAA| b=bbbb| c=| d=ddd| f=ffff|"},
		{most, []byte{0, 0, 0, 0, 0, 32}, "a=aaAA| b=bbbb| c=| d=ddd| f=fffF|"},
		{most, []byte{32, 32, 32, 32, 32, 32, 32}, "a=aaaa| b=BBBB| c=| d=ddd| f=ffff|"},
		{most, []byte{255, 128}, "a=aa\xbe\xbe| b=\xe2\xe2\xe2\xe2| c=| d=ddd| f=fffF|"},
		{nil, []byte{32, 32, 32, 32, 32}, "a=aa| b=| c=| d=ddd| f=fff|"},
		{[]int64{1, 1}, []byte{32, 32, 32, 32, 32}, "a=aaa| b=B| c=| d=ddd| f=fff|"},
		{[]int64{-1, 3, 1, 1, 1}, []byte{32, 32, 32, 32, 32}, "a=aa| b=BBB| c=| d=ddd| f=ffff|"},
	} {
		crashIs(t, mixed(), c.keeps, c.garble, c.want)
	}
}

// The last Block of what remains are garbled, and none of the durable bytes, however many of each there are.
func TestCrashGarblesABlock(t *testing.T) {
	const pending = 200
	for _, durable := range []int{0, 1, 10, 63, 64, 65, 100} {
		for keeps := range pending + 3 {
			f := made(add("x", strings.Repeat("s", durable)), keep("x"), add("x", strings.Repeat("a", pending)))
			f.Crash([]int64{int64(keeps)}, []byte{3})
			left := min(keeps, pending)
			k := min(left, 64)
			want := strings.Repeat("s", durable) + strings.Repeat("a", left-k) + strings.Repeat("b", k)
			if got := all(t, f, "x"); got != want {
				t.Fatalf("P7.2: %d durable bytes, %d pending ones left: %q, want %q", durable, left, got, want)
			}
		}
	}
}

// Each of the garbled bytes is changed by itself, and twice changed it is as before.
func TestCrashGarblesByBits(t *testing.T) {
	var b []byte
	for i := range 150 {
		b = append(b, byte(i*7))
	}
	for g := range 256 {
		f := New()
		f.Append("x", b)
		f.Crash([]int64{150}, []byte{byte(g)})
		got := []byte(all(t, f, "x"))
		for i, x := range got {
			want := b[i]
			if i >= 150-64 {
				want = byte(int(want) ^ g)
			}
			if x != want {
				t.Fatalf("P7.2: garbled by %d, byte %d: %d, want %d", g, i, x, want)
			}
		}
	}
}

// A file counts by its place in List, be there pending bytes in it or not, and not by when it was made.
func TestCrashCountsByList(t *testing.T) {
	want := ordered()
	for at := range want {
		f := New()
		for _, file := range slices.Backward(want) {
			f.Append(file, []byte("ab"))
		}
		keeps, garble := make([]int64, len(want)), make([]byte, len(want))
		keeps[at], garble[at] = 1, 2
		f.Crash(keeps, garble)
		for i, file := range want {
			left := ""
			if i == at {
				left = "c"
			}
			if got := all(t, f, file); got != left {
				t.Errorf("P7.2: keeps for the file %d alone, file %d: %q, want %q", at, i, got, left)
			}
		}
	}
}

func TestCrashOfNothing(t *testing.T) {
	f := New()
	crashIs(t, f, nil, nil, "")
	crashIs(t, f, []int64{1, 2}, []byte{1, 2}, "")
	if why := f.Append("a", []byte("x")); why != api.OK || all(t, f, "a") != "x" {
		t.Errorf("P7.2: Append behind a crash without files: %d", int(why))
	}
}

func TestWhatFollowsACrash(t *testing.T) {
	run(t, "P7.2", made(add("a", "ab"), keep("a"), add("a", "cdef"), add("b", "gh")), []step{
		{"a crash", crash([]int64{1, 0}, nil), api.OK, "a=abc| b=|", 4},
		{"bytes behind it are pending", add("a", "XY"), api.OK, "a=abc|XY b=|", 5},
		{"to an empty file too", add("b", "Z"), api.OK, "a=abc|XY b=|Z", 6},
		{"another crash", crash([]int64{1, 1}, []byte{0, 1}), api.OK, "a=abcX| b=[|", 6},
		{"a stopped one", stop(0), api.OK, "a=abcX| b=[|", 6},
		{"which does nothing", remove("a"), api.OK, "a=abcX| b=[|", 6},
		{"crashes", crash(nil, nil), api.OK, "a=abcX| b=[|", 6},
		{"and goes on", remove("a"), api.OK, "b=[|", 7},
	})
}

func TestCopy(t *testing.T) {
	f := mixed()
	want := state(t, f)
	x := f.Copy()
	stateIs(t, "P7.2: Copy", x, want, 11)
	stateIs(t, "P7.2: what is copied", f, want, 11)
	stateIs(t, "P7.2: Copy of a new one", New().Copy(), "", 0)
	stateIs(t, "P7.2: Copy of a copy", x.Copy(), want, 11)
}

// turns are the calls that change a file system of mixed.
func turns() map[string]func(f *FS) api.Errno {
	return map[string]func(f *FS) api.Errno{
		"Append":            add("a", "new"),
		"Append to another": add("b", "new"),
		"a new file":        add("new", "new"),
		"Truncate":          cut("a", 1),
		"Truncate and more": func(f *FS) api.Errno { return f.Truncate("a", 1) + f.Append("a", []byte("NEW")) },
		"Rename":            rename("a", "new"),
		"Rename onto one":   rename("a", "b"),
		"Remove":            remove("a"),
		"Sync":              keep("a"),
		"Stop":              stop(0),
		"Crash":             crash(nil, nil),
		"a garbling crash":  crash([]int64{9, 9, 9, 9, 9}, []byte{1, 1, 1, 1, 1}),
	}
}

// Whichever of a file system and its copy is turned, the other one stays, and does later what it would have done.
func TestCopyIsIndependent(t *testing.T) {
	want := state(t, mixed())
	for what, turn := range turns() {
		turned := mixed()
		turn(turned)
		changed, deeds := state(t, turned), turned.Deeds()
		for i := range 2 {
			f := mixed()
			x := f.Copy()
			if i == 1 {
				f, x = x, f
			}
			turn(f)
			what := fmt.Sprintf("P7.2: %s, turned %d", what, i)
			stateIs(t, what, f, changed, deeds)
			stateIs(t, what+", the other one", x, want, 11)
			if x.Append("z", []byte("z")) != api.OK || x.Len("z") != 1 || f.Len("z") != 0 {
				t.Errorf("%s: the other one does not go on", what)
			}
		}
	}
}

// Bytes that both append do not meet, though what they follow was one list.
func TestCopyAppendsApart(t *testing.T) {
	for n := range 100 {
		f := New()
		for range n {
			f.Append("a", []byte("s"))
		}
		x := f.Copy()
		f.Append("a", []byte("left"))
		x.Append("a", []byte("RIGHT"))
		f.Append("a", []byte("."))
		same := strings.Repeat("s", n)
		if all(t, f, "a") != same+"left." || all(t, x, "a") != same+"RIGHT" {
			t.Fatalf("P7.2: Append to both behind %d bytes: %q and %q", n, all(t, f, "a"), all(t, x, "a"))
		}
	}
}

// A copy is stopped as what it was copied from, and counts its own deeds from there.
func TestCopyIsStopped(t *testing.T) {
	for n := -1; n < 5; n++ {
		f := made(add("a", "x"), stop(n))
		f.Append("a", []byte("x"))
		x := f.Copy()
		f.Append("a", []byte("x"))
		for range 4 {
			x.Append("a", []byte("x"))
		}
		// Of the deeds behind Stop, f is asked for two, and x for five, of which it shares the first one with f.
		one, five := min(n, 2), min(n, 5)
		if n < 0 {
			one, five = 2, 5
		}
		stateIs(t, fmt.Sprintf("P7.2: Stop(%d), and copied", n), f, "a=|"+strings.Repeat("x", 1+one), 1+one)
		stateIs(t, fmt.Sprintf("P7.2: the copy behind Stop(%d)", n), x, "a=|"+strings.Repeat("x", 1+five), 1+five)
		x.Crash(nil, nil)
		x.Stop(-1)
		f.Stop(0)
		if x.Append("b", nil) != api.OK || len(x.List()) != 2 || f.Append("b", nil) != api.OK || len(f.List()) != 1 {
			t.Errorf("P7.2: Crash and Stop of a copy, behind Stop(%d)", n)
		}
	}
}

// fill overwrites all bytes of b and its spare capacity.
func fill(b []byte) {
	b = b[:cap(b)]
	for i := range b {
		b[i] = '#'
	}
}

func TestReadIsNewMemory(t *testing.T) {
	f := made(add("a", "abc"), keep("a"), add("a", "def"), add("e", ""))
	x, _ := f.Read("a")
	y, _ := f.Read("a")
	e, _ := f.Read("e")
	fill(x)
	fill(e)
	if string(y) != "abcdef" {
		t.Errorf("R2: two results of Read share memory: %q", y)
	}
	stateIs(t, "R2: a result of Read was changed", f, "a=abc|def e=|", 4)
	f.Append("a", []byte("ghi"))
	f.Append("e", []byte("z"))
	fill(x)
	fill(y)
	fill(e)
	stateIs(t, "R2: a result of Read was changed behind Append", f, "a=abc|defghi e=|z", 6)
	z, _ := f.Read("a")
	f.Truncate("a", 1)
	f.Append("a", []byte("NEWNEWNEW"))
	f.Crash([]int64{9}, []byte{1})
	if string(z) != "abcdefghi" {
		t.Errorf("R2: a result of Read was changed by later calls: %q", z)
	}
}

func TestAppendKeepsNothing(t *testing.T) {
	for n := range 40 {
		whole := slices.Repeat([]byte{'s'}, 40)
		b := whole[:n]
		f := New()
		f.Append("a", b)
		f.Append("b", b)
		f.Append("a", []byte("more"))
		f.Append("a", b)
		f.Crash([]int64{1000, 1000}, []byte{1, 1})
		if string(whole) != strings.Repeat("s", 40) {
			t.Fatalf("R2: Append changed its argument or what follows it: %q", whole)
		}
		was := all(t, f, "a") + all(t, f, "b")
		fill(whole)
		if all(t, f, "a")+all(t, f, "b") != was || len(was) != 3*n+4 {
			t.Fatalf("R2: Append keeps its argument, or reads what follows it: %q", all(t, f, "a"))
		}
	}
}

func TestCrashLeavesItsArguments(t *testing.T) {
	keeps := []int64{1, -5, 9, 99, math.MinInt64, 9, 9, 9}
	garble := []byte{32, 32, 0, 7, 32, 32, 32, 32}
	k, g := slices.Clone(keeps), slices.Clone(garble)
	mixed().Crash(keeps, garble)
	if !slices.Equal(keeps, k) || !slices.Equal(garble, g) {
		t.Errorf("R2: Crash changed its arguments: %d, %d", keeps, garble)
	}
	keeps, garble = []int64{1, 2, 2, 2, 2}, []byte{32, 32, 32, 32, 32}
	crashIs(t, mixed(), keeps[:1], garble[:0], "a=aaA| b=| c=| d=ddd| f=fff|")
	crashIs(t, mixed(), keeps[:2], garble[:1], "a=aaa| b=bb| c=| d=ddd| f=fff|")
	crashIs(t, mixed(), keeps, garble[:1], "a=aaa| b=bb| c=| d=ddd| f=fffF|")
	crashIs(t, mixed(), keeps[:0], garble, "a=aa| b=| c=| d=ddd| f=fff|")
}

func TestListIsNewMemory(t *testing.T) {
	f := mixed()
	x, y := f.List(), f.List()
	for i := range x {
		x[i] = "zz"
	}
	want := []string{"a", "b", "c", "d", "f"}
	if !slices.Equal(y, want) || !slices.Equal(f.List(), want) {
		t.Errorf("R2: a result of List was changed: %q, %q", y, f.List())
	}
	f.Remove("a")
	if !slices.Equal(y, want) {
		t.Errorf("R2: a result of List was changed by a later call: %q", y)
	}
}

// within reports whether the memory of part lies in that of s.
func within(part, s string) bool {
	p, q := uintptr(unsafe.Pointer(unsafe.StringData(part))), uintptr(unsafe.Pointer(unsafe.StringData(s)))
	return p >= q && p < q+uintptr(len(s))
}

// No name is kept as it was handed in, neither that of a new file nor that of one that is there already.
func TestNamesAreNotKept(t *testing.T) {
	own := func(s string) string { return strings.Clone(s) }
	for what, f := range map[string]func(f *FS, file string){
		"Append":             func(f *FS, file string) { f.Append(file, nil) },
		"Append, then again": func(f *FS, file string) { f.Append(own(file), nil); f.Append(file, []byte("x")) },
		"Rename":             func(f *FS, file string) { f.Append("x", nil); f.Rename("x", file) },
		"Rename onto a file": func(f *FS, file string) { f.Append("x", nil); f.Append(own(file), nil); f.Rename("x", file) },
		"Rename onto itself": func(f *FS, file string) { f.Append(own(file), nil); f.Rename(own(file), file) },
		"Sync":               func(f *FS, file string) { f.Append(own(file), nil); f.Sync(file) },
		"Truncate":           func(f *FS, file string) { f.Append(own(file), nil); f.Truncate(file, 0) },
	} {
		x, file := New(), strings.Repeat("n", 20)
		f(x, file)
		l := append(x.List(), x.Copy().List()...)
		if len(l) != 2 || l[0] != file || l[1] != file || within(l[0], file) || within(l[1], file) || within(l[0], l[1]) {
			t.Errorf("R2: %s keeps a name, or a file system and its copy share one: %q", what, l)
		}
		if again := x.List(); within(again[0], l[0]) {
			t.Errorf("R2: behind %s, two results of List share a name", what)
		}
		// A name whose memory is changed later shows whether it was kept.
		b := []byte(file)
		x = New()
		f(x, unsafe.String(unsafe.SliceData(b), len(b)))
		fill(b)
		if l := x.List(); len(l) != 1 || l[0] != file {
			t.Errorf("R2: %s keeps the name that it was given: %q", what, l)
		}
	}
}

// What is handed out is zero where there is none, whatever was asked for before.
func TestReadOfNone(t *testing.T) {
	f := made(add("a", "abc"), rename("a", "b"), remove("b"), stop(0), add("c", "x"))
	for _, file := range append(wrongNames(), "a", "b", "c") {
		notThere(t, f, file)
	}
}
