package files

import (
	"fmt"
	"math/rand/v2"
	"slices"
	"strings"
	"testing"

	"bordereau/api"
	"bordereau/name"
)

// plain is a file system as a list: each file is its name, its durable bytes and its pending ones as texts.
// No two of these share anything, so one is copied by its value.
type plain struct {
	files string
	deeds int
	stop  int
}

// row is a file of a plain one.
type row struct {
	file, durable, pending string
}

// rows returns the files in the order of List.
func (m plain) rows() []row {
	var out []row
	for _, s := range strings.Fields(m.files) {
		file, rest, _ := strings.Cut(s, "=")
		durable, pending, _ := strings.Cut(rest, "|")
		out = append(out, row{file, durable, pending})
	}
	return out
}

// set makes these the files.
func (m *plain) set(l []row) {
	slices.SortFunc(l, func(a, b row) int { return slices.Compare([]rune(a.file), []rune(b.file)) })
	var out []string
	for _, r := range l {
		out = append(out, r.file+"="+r.durable+"|"+r.pending)
	}
	m.files = strings.Join(out, " ")
}

// act is a call, as plain data.
type act struct {
	kind string
	a, b string
	n    int
}

// does makes the call on a file system.
func (x act) does(f *FS) api.Errno {
	switch x.kind {
	case "append":
		return f.Append(x.a, []byte(x.b))
	case "cut":
		return f.Truncate(x.a, x.n)
	case "rename":
		return f.Rename(x.a, x.b)
	case "remove":
		return f.Remove(x.a)
	case "sync":
		return f.Sync(x.a)
	case "stop":
		f.Stop(x.n)
	case "crash":
		f.Crash([]int64{int64(x.n), int64(x.n - 1)}, []byte(x.b))
	}
	return api.OK
}

// why returns the error of the call, which is of a deed.
func (m plain) why(x act) api.Errno {
	l := m.rows()
	at := slices.IndexFunc(l, func(r row) bool { return r.file == x.a })
	if x.kind == "append" {
		switch {
		case !name.Right(x.a):
			return api.ErrArg
		case at < 0 && len(l) == 64:
			return api.ErrFull
		}
		return api.OK
	}
	switch {
	case at < 0:
		return api.ErrNone
	case x.kind == "rename" && !name.Right(x.b):
		return api.ErrArg
	case x.kind == "cut" && (x.n < 0 || x.n > len(l[at].durable+l[at].pending)):
		return api.ErrArg
	}
	return api.OK
}

// does makes the call on a plain one.
func (m *plain) does(x act) api.Errno {
	switch x.kind {
	case "stop":
		m.stop = x.n
		return api.OK
	case "crash":
		m.crash([]int{x.n, x.n - 1}, x.b)
		return api.OK
	}
	why := m.why(x)
	if why != api.OK || m.stop == 0 {
		return why
	}
	m.stop--
	m.deeds++
	m.deed(x)
	return api.OK
}

// deed performs the call, which has no error.
func (m *plain) deed(x act) {
	r := row{file: x.a}
	var rest []row
	for _, q := range m.rows() {
		if q.file == x.a {
			r = q
		} else if x.kind != "rename" || q.file != x.b {
			rest = append(rest, q)
		}
	}
	whole := r.durable + r.pending
	switch x.kind {
	case "append":
		r.pending += x.b
	case "cut":
		r.durable, r.pending = whole[:x.n], ""
	case "rename":
		r.file = x.b
	case "sync":
		r.durable, r.pending = whole, ""
	case "remove":
		m.set(rest)
		return
	}
	m.set(append(rest, r))
}

// crash keeps of each file so many of the pending bytes, and garbles these.
func (m *plain) crash(keeps []int, garble string) {
	l := m.rows()
	for i := range l {
		left := ""
		for k := 0; i < len(keeps) && k < keeps[i] && k < len(l[i].pending); k++ {
			left += l[i].pending[k : k+1]
		}
		for k := max(0, len(left)-64); i < len(garble) && k < len(left); k++ {
			left = left[:k] + string([]byte{left[k] ^ garble[i]}) + left[k+1:]
		}
		l[i].durable, l[i].pending = l[i].durable+left, ""
	}
	m.set(l)
	m.stop = -1
}

// agree makes the last call of path on both, and fails the test unless they agree on it and on what is there behind it.
func agree(t *testing.T, f *FS, m *plain, path ...act) {
	t.Helper()
	x := path[len(path)-1]
	got, want := x.does(f), m.does(x)
	if s := state(t, f); got != want || s != m.files || f.Deeds() != m.deeds {
		t.Fatalf("P7.1, P7.2: %#v: %d, %d deeds, %q; want %d, %d deeds, %q", path, int(got), f.Deeds(), s, int(want), m.deeds, m.files)
	}
}

// few are calls of which every short run is made.
func few() []act {
	return []act{
		{kind: "append", a: "a", b: "xy"}, {kind: "append", a: "b", b: "z"}, {kind: "append", a: "b"},
		{kind: "cut", a: "a"}, {kind: "cut", a: "a", n: 1}, {kind: "cut", a: "b", n: 2},
		{kind: "rename", a: "a", b: "b"}, {kind: "rename", a: "b", b: "a"}, {kind: "rename", a: "a", b: "a"},
		{kind: "remove", a: "a"}, {kind: "remove", a: "b"}, {kind: "sync", a: "a"}, {kind: "sync", a: "b"},
		{kind: "stop"}, {kind: "stop", n: 1}, {kind: "crash", n: 0}, {kind: "crash", n: 1}, {kind: "crash", n: 2, b: "\x01\x02"},
	}
}

// every makes all runs of so many calls, each of them on a copy, and fails the test if what was copied changes.
func every(t *testing.T, f *FS, m plain, depth int, path ...act) {
	if depth == 0 {
		return
	}
	for _, x := range few() {
		g, k := f.Copy(), m
		p := append(slices.Clone(path), x)
		agree(t, g, &k, p...)
		every(t, g, k, depth-1, p...)
		if s := state(t, f); s != m.files || f.Deeds() != m.deeds {
			t.Fatalf("P7.2: %#v: copied, and the copy was turned: %q, want %q", path, s, m.files)
		}
	}
}

func TestEveryShortRun(t *testing.T) {
	every(t, New(), plain{stop: -1}, 4)
}

// one returns one of l.
func one[T any](r *rand.Rand, l ...T) T {
	return l[r.IntN(len(l))]
}

// chance returns a call.
func chance(r *rand.Rand, files []string) act {
	a, b := one(r, files...), one(r, files...)
	switch r.IntN(12) {
	case 0, 1, 2, 3:
		return act{kind: "append", a: a, b: strings.Repeat(one(r, "k", "q", "世"), one(r, 0, 1, 2, 30, 90))}
	case 4:
		return act{kind: "cut", a: a, n: one(r, -1, 0, 0, 1, 2, 29, 60, 91)}
	case 5, 6:
		return act{kind: "rename", a: a, b: b}
	case 7:
		return act{kind: "remove", a: a}
	case 8, 9:
		return act{kind: "sync", a: a}
	case 10:
		return act{kind: "stop", n: one(r, -1, -2, 0, 1, 2, 5, 10)}
	}
	return act{kind: "crash", n: one(r, -3, 0, 1, 5, 63, 64, 65, 66, 100, 1000), b: one(r, "", "\x01", "\x00\x02", "\x01\x02\x03")}
}

func TestLongRuns(t *testing.T) {
	files := []string{"a", "b", "c", "ab", "世", "\u0100", "start.new", strings.Repeat("a", 40), "A", "", strings.Repeat("a", 41), "\xff"}
	for seed := range uint64(300) {
		r := rand.New(rand.NewPCG(seed, 7))
		f, m := New(), plain{stop: -1}
		var l []act
		for range 80 {
			l = append(l, chance(r, files))
			agree(t, f, &m, l...)
		}
	}
}

// With names for more than MaxFiles files, there are often as many as may be.
func TestLongRunsOfManyFiles(t *testing.T) {
	var files []string
	for i := range 90 {
		files = append(files, fmt.Sprintf("%02d", i))
	}
	full := 0
	for seed := range uint64(4) {
		r := rand.New(rand.NewPCG(seed, 8))
		f, m := New(), plain{stop: -1}
		for i := range 1000 {
			x := act{kind: "append", a: one(r, files...), b: "x"}
			if i > 300 {
				x = one(r, x, x, chance(r, files))
			}
			agree(t, f, &m, x)
			if len(m.rows()) == 64 {
				full++
			}
		}
	}
	if full < 100 {
		t.Errorf("of 4000 calls, %d alone were made with MaxFiles files", full)
	}
}
