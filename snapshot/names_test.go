package snapshot_test

import (
	"math"
	"slices"
	"strings"
	"testing"

	"bordereau/api"
	"bordereau/name"
	"bordereau/snapshot"
)

const (
	third   = "00000000000000000003.snapshot"
	seventh = "00000000000000000007.snapshot"
	twelfth = "00000000000000000012.snapshot"
	first   = "00000000000000000000.snapshot"
	last    = "00000001099511627776.snapshot"
)

// file returns the name of the snapshot with that base.
func file(t *testing.T, base int64) string {
	t.Helper()
	s, ok := name.File(base, "snapshot")
	if !ok {
		t.Fatalf("P3.1: File(%d): false", base)
	}
	return s
}

// others are names of no snapshot.
func others() []string {
	return []string{
		"", ".", "start", "start.new", "clean", "snapshot", ".snapshot", "5.snapshot", "0000000000000000005.snapshot", "000000000000000000005.snapshot",
		// Of other kinds, also of those that are like this one.
		"00000000000000000005.log", "00000000000000000005.index", "00000000000000000005.aborts", "00000000000000000005.snapshots", "00000000000000000005.snapsho", "00000000000000000005.snap",
		"00000000000000000005.Snapshot", "00000000000000000005.SNAPSHOT", "00000000000000000005.snapshot.new", "00000000000000000005.new.snapshot", "00000000000000000005..snapshot", "00000000000000000005.snapshot.",
		"00000000000000000005.", "00000000000000000005", "00000000000000000005snapshot", "00000000000000000005-snapshot", "00000000000000000005.snapshot ", " 00000000000000000005.snapshot", "00000000000000000005.snapshot\x00",
		// With other bases: of other digits, below 0 and above MaxOffset.
		"0000000000000000000a.snapshot", "-0000000000000000005.snapshot", "+0000000000000000005.snapshot", "0x000000000000000005.snapshot", "0000000000000000000５.snapshot", "00000000000000000٥.snapshot",
		"00000001099511627777.snapshot", "00000009999999999999.snapshot", "09223372036854775807.snapshot", "18446744073709551621.snapshot", "99999999999999999999.snapshot", "00000000001099511627776.snapshot",
		// No UTF-8, and long ones.
		"\xff", "00000000000000000005.snapshot\xff", "0000000000000000000\xff.snapshot", "00000000000000000005.ſnapshot", "00000000000000000005.sna\u0301pshot", strings.Repeat("0", 5000) + "5.snapshot", "00000000000000000005." + strings.Repeat("snapshot", 600),
	}
}

// latest fails the test unless Latest answers want, and true unless that is no name.
func latest(t *testing.T, names []string, end int64, want string) {
	t.Helper()
	if s, ok := snapshot.Latest(names, end); s != want || ok != (want != "") {
		t.Errorf("P12.1: Latest(%q, %d): %q, %v, want %q", names, end, s, ok, want)
	}
}

// old fails the test unless Old answers want.
func old(t *testing.T, names []string, keep int, want ...string) {
	t.Helper()
	if got := snapshot.Old(names, keep); !slices.Equal(got, want) {
		t.Errorf("P12.1: Old(%q, %d): %q, want %q", names, keep, got, want)
	}
}

// orders are all orders of l.
func orders(l []string) [][]string {
	if len(l) == 0 {
		return [][]string{nil}
	}
	var out [][]string
	for i := range l {
		for _, rest := range orders(slices.Concat(l[:i], l[i+1:])) {
			out = append(out, append(rest, l[i]))
		}
	}
	return out
}

func TestLatest(t *testing.T) {
	for _, names := range orders([]string{twelfth, third, "00000000000000000009.log", seventh, "start"}) {
		for end, want := range map[int64]string{
			math.MinInt64: "", -2: "", -1: "", 0: "", 2: "", 3: third, 4: third, 6: third, 7: seventh, 8: seventh, 9: seventh,
			11: seventh, 12: twelfth, 13: twelfth, api.MaxOffset: twelfth, math.MaxInt64: twelfth,
		} {
			latest(t, names, end, want)
		}
	}
}

func TestLatestOfTheLeastAndTheGreatestBase(t *testing.T) {
	for _, names := range orders([]string{first, last}) {
		latest(t, names, -1, "")
		latest(t, names, 0, first)
		latest(t, names, api.MaxOffset-1, first)
		latest(t, names, api.MaxOffset, last)
		latest(t, names, math.MaxInt64, last)
		old(t, names, 0, first, last)
		old(t, names, 1, first)
		old(t, names, 2)
	}
}

func TestLatestAroundABase(t *testing.T) {
	for _, base := range []int64{0, 1, 9, 10, 99, 1 << 31, 1 << 32, 1<<39 + 5, api.MaxOffset - 1, api.MaxOffset} {
		names := []string{file(t, base)}
		latest(t, names, base-1, "")
		latest(t, names, base, names[0])
		latest(t, names, base+1, names[0])
		latest(t, names, math.MaxInt64, names[0])
		latest(t, names, -1, "")
		latest(t, names, math.MinInt64, "")
		for _, s := range others() {
			latest(t, []string{s, names[0], s}, base-1, "")
			latest(t, []string{s, names[0], s}, base, names[0])
		}
	}
}

func TestLatestOfBasesNextToEachOther(t *testing.T) {
	for _, base := range []int64{0, 8, 9, 99, api.MaxOffset - 2} {
		a, b, c := file(t, base), file(t, base+1), file(t, base+2)
		for _, names := range orders([]string{a, b, c}) {
			latest(t, names, base-1, "")
			latest(t, names, base, a)
			latest(t, names, base+1, b)
			latest(t, names, base+2, c)
			latest(t, names, base+3, c)
		}
	}
}

func TestNamesOfNoSnapshot(t *testing.T) {
	for _, s := range others() {
		for _, n := range []int64{math.MinInt64, -1, 0, 4, 5, 6, api.MaxOffset, math.MaxInt64} {
			latest(t, []string{s}, n, "")
			latest(t, []string{s, first, s}, max(n, 0), first)
		}
		for _, keep := range []int{math.MinInt, -1, 0, 1, 2, math.MaxInt} {
			old(t, []string{s}, keep)
			old(t, []string{s, s}, keep)
		}
		// It is not counted among those that are kept, either.
		old(t, []string{s, seventh, s, third, s}, 0, third, seventh)
		old(t, []string{s, seventh, s, third, s}, 1, third)
		old(t, []string{s, seventh, s, third, s}, 2)
	}
	latest(t, others(), math.MaxInt64, "")
	old(t, others(), 0)
	latest(t, nil, math.MaxInt64, "")
	latest(t, []string{}, 0, "")
	latest(t, nil, -1, "")
}

func TestOld(t *testing.T) {
	sorted := []string{first, third, seventh, twelfth}
	for _, names := range orders(append([]string{"00000000000000000009.log"}, sorted...)) {
		for _, keep := range []int{math.MinInt, -5, -1, 0} {
			old(t, names, keep, sorted...)
		}
		old(t, names, 1, first, third, seventh)
		old(t, names, 2, first, third)
		old(t, names, 3, first)
		for _, keep := range []int{4, 5, 6, 1000, math.MaxInt - 1, math.MaxInt} {
			old(t, names, keep)
		}
	}
}

func TestOldOfNoNames(t *testing.T) {
	for _, keep := range []int{math.MinInt, -1, 0, 1, math.MaxInt} {
		old(t, nil, keep)
		old(t, []string{}, keep)
		want := []string{third}
		if keep > 0 {
			want = nil
		}
		old(t, []string{third}, keep, want...)
	}
}

// Bases whose digits differ in number and at every place.
func TestOldIsInTheOrderOfLess(t *testing.T) {
	var want []string
	for base := int64(0); base <= api.MaxOffset; base = base*3 + 1 {
		want = append(want, file(t, base))
	}
	want = append(want, file(t, api.MaxOffset))
	for step := range len(want) {
		names := slices.Concat(want[step:], others(), want[:step])
		for keep := range len(want) + 1 {
			old(t, names, keep, want[:len(want)-keep]...)
		}
		slices.Reverse(names)
		got := snapshot.Old(names, 0)
		if !slices.Equal(got, want) || !slices.IsSortedFunc(got, less) {
			t.Errorf("P12.1: Old(%q, 0): %q", names, got)
		}
	}
}

// less orders as name.Less does.
func less(a, b string) int {
	if name.Less(a, b) {
		return -1
	}
	if name.Less(b, a) {
		return 1
	}
	return 0
}

// A name that is there twice is two of the names.
func TestTheSameNameTwice(t *testing.T) {
	for _, names := range orders([]string{third, third, seventh, seventh}) {
		latest(t, names, 2, "")
		latest(t, names, 3, third)
		latest(t, names, 6, third)
		latest(t, names, 7, seventh)
		old(t, names, -1, third, third, seventh, seventh)
		old(t, names, 0, third, third, seventh, seventh)
		old(t, names, 1, third, third, seventh)
		old(t, names, 2, third, third)
		old(t, names, 3, third)
		old(t, names, 4)
		old(t, names, 5)
	}
}

func TestNamesStayAsTheyAre(t *testing.T) {
	whole := []string{twelfth, "start", third, seventh, "00000000000000000099.snapshot", first}
	names := slices.Clone(whole)
	for n := range len(names) + 1 {
		for _, keep := range []int{-1, 0, 1, 2, 9} {
			got := snapshot.Old(names[:n], keep)
			snapshot.Latest(names[:n], 9)
			// What is answered is new memory, with all that it could grow into.
			got = got[:cap(got)]
			for i := range got {
				got[i] = "other"
			}
			if !slices.Equal(names, whole) {
				t.Fatalf("R2: Old or Latest changed the names: %q, want %q", names, whole)
			}
		}
	}
	// What follows the names is not looked at.
	latest(t, names[:3], math.MaxInt64, twelfth)
	latest(t, names[:0], math.MaxInt64, "")
	old(t, names[:3], 0, third, twelfth)
	old(t, names[:0], 0)
}
