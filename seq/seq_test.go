package seq

import (
	"math"
	"math/big"
	"testing"

	"bordereau/api"
)

// all is how many sequence numbers there are.
const all = int64(api.MaxSeq) + 1

// rights returns sequence numbers: those next to both ends, to the middle and to powers of two.
func rights() []int64 {
	var out []int64
	for d := range int64(20) {
		out = append(out, d, all/2-10+d, api.MaxSeq-d)
	}
	for i := 5; i < 31; i++ {
		out = append(out, 1<<i-1, 1<<i, 1<<i+1)
	}
	return append(out, 1234567890, 987654321)
}

// wrongs returns numbers that are no sequence numbers.
// Many of them would be one if whole rounds, their upper bits or their sign were left out.
func wrongs() []int64 {
	out := []int64{math.MinInt64, math.MinInt64 + 1, math.MinInt64 + 5, math.MaxInt64, math.MaxInt64 - 1}
	for d := range int64(20) {
		out = append(out, -1-d, api.MaxSeq+1+d, -all+d, -all-1-d, 2*all+d, 2*all-1-d, 1<<40+d, 1<<62+d, -1<<62+d)
	}
	for i := 31; i < 63; i++ {
		out = append(out, 1<<i, 1<<i+1, -1<<i, -1<<i+1)
	}
	return out
}

// steps returns numbers of steps: few, about a round, many rounds, and those next to the ends of an int.
func steps() []int {
	out := []int{math.MinInt, math.MinInt + 1, math.MinInt + 2, math.MaxInt, math.MaxInt - 1, math.MaxInt - 2}
	for d := -20; d <= 20; d++ {
		out = append(out, d)
		for _, rounds := range []int64{-1 << 31, -1000, -2, -1, 1, 2, 1000, 1 << 31} {
			out = append(out, int(rounds*all)+d)
		}
	}
	for i := range 62 {
		k := int(int64(1) << i)
		out = append(out, k-1, k, k+1, -k-1, -k, -k+1)
	}
	return out
}

// along computes Add of a sequence number in another way than the program: in numbers without a width.
func along(n int64, k int) int64 {
	sum := new(big.Int).Add(big.NewInt(n), big.NewInt(int64(k)))
	return sum.Mod(sum, big.NewInt(all)).Int64()
}

func TestRight(t *testing.T) {
	for _, n := range rights() {
		if !Right(n) {
			t.Errorf("P5.1: Right(%d): false", n)
		}
	}
	for _, n := range wrongs() {
		if Right(n) {
			t.Errorf("P5.1: Right(%d): true", n)
		}
	}
	for n, want := range map[int64]bool{-1: false, 0: true, 1: true, 1<<31 - 2: true, 1<<31 - 1: true, 1 << 31: false} {
		if Right(n) != want {
			t.Errorf("P5.1: Right(%d): %v", n, !want)
		}
	}
}

// addIs fails the test unless Add(n, k) answers want.
func addIs(t *testing.T, n int64, k int, want int64) {
	t.Helper()
	if got := Add(n, k); got != want {
		t.Errorf("P5.1: Add(%d, %d): %d, want %d", n, k, got, want)
	}
}

func TestAddKnownSums(t *testing.T) {
	const most = api.MaxSeq
	for _, c := range []struct {
		n    int64
		k    int
		want int64
	}{
		{most, 1, 0},
		{most, 2, 1},
		{most, 0, most},
		{most, -1, most - 1},
		{most, -most, 0},
		{most, most, most - 1},
		{most, math.MaxInt32, most - 1},
		{most, math.MinInt32, most},
		{0, 0, 0},
		{0, 1, 1},
		{0, -1, most},
		{0, most, most},
		{0, -most, 1},
		{0, math.MinInt32, 0},
		{5, 3, 8},
		{5, -5, 0},
		{5, -6, most},
		{most - 3, 16, 12},
		{12, -16, most - 3},
	} {
		addIs(t, c.n, c.k, c.want)
	}
}

func TestAddAgreesWithWideSums(t *testing.T) {
	for _, n := range rights() {
		for _, k := range steps() {
			addIs(t, n, k, along(n, k))
		}
	}
}

// walked fails the test unless Add answers, for every number of steps from any of ring's numbers to any other one, that other one.
func walked(t *testing.T, ring []int64) {
	t.Helper()
	for i, from := range ring {
		for j, to := range ring {
			addIs(t, from, j-i, to)
		}
	}
}

func TestAddAcrossTheEnds(t *testing.T) {
	var ring, low, high []int64
	for d := range int64(40) {
		low = append(low, d)
		high = append(high, api.MaxSeq-39+d)
	}
	walked(t, append(append(ring, high...), low...))
}

func TestAddOfManyRounds(t *testing.T) {
	for _, n := range rights() {
		for _, rounds := range []int64{-1 << 32, -3, -1, 1, 3, 1<<32 - 1} {
			// Where an int is short, it can't be that many rounds.
			if k := int(rounds * all); int64(k) == rounds*all {
				addIs(t, n, k, n)
			}
		}
	}
}

func TestAddRefuses(t *testing.T) {
	for _, n := range wrongs() {
		for _, k := range steps() {
			addIs(t, n, k, -1)
		}
	}
}

// lastIs fails the test unless Last(first, count) answers want.
func lastIs(t *testing.T, first int64, count int, want int64) {
	t.Helper()
	if got := Last(first, count); got != want {
		t.Errorf("P5.1: Last(%d, %d): %d, want %d", first, count, got, want)
	}
}

// wrongCounts returns numbers of records that no batch has.
func wrongCounts() []int {
	out := []int{math.MinInt, math.MinInt + 1, math.MinInt32, math.MaxInt32, math.MaxInt - 1, math.MaxInt}
	for d := range 20 {
		out = append(out, -d, api.MaxRecords+1+d)
	}
	// Next to these lie counts that would be right if whole rounds or upper bits were left out.
	for _, far := range []int64{1 << 8, 1 << 16, all, -all, 2 * all, 1 << 40, -1 << 62} {
		for d := range int64(20) {
			if n := int(far + d); int64(n) == far+d {
				out = append(out, n)
			}
		}
	}
	return out
}

func TestLastKnownNumbers(t *testing.T) {
	const most = api.MaxSeq
	for _, c := range []struct {
		first int64
		count int
		want  int64
	}{
		{most, 2, 0},
		{most, 1, most},
		{most, 16, 14},
		{most - 1, 2, most},
		{most - 15, 16, most},
		{most - 14, 16, 0},
		{0, 1, 0},
		{0, 16, 15},
		{7, 3, 9},
	} {
		lastIs(t, c.first, c.count, c.want)
	}
}

func TestLastOfEveryCount(t *testing.T) {
	for _, first := range rights() {
		for count := 1; count <= api.MaxRecords; count++ {
			lastIs(t, first, count, along(first, count-1))
		}
	}
}

func TestLastRefuses(t *testing.T) {
	for _, count := range wrongCounts() {
		for _, first := range rights() {
			lastIs(t, first, count, -1)
		}
		for _, first := range wrongs() {
			lastIs(t, first, count, -1)
		}
	}
	for _, first := range wrongs() {
		for count := 1; count <= api.MaxRecords; count++ {
			lastIs(t, first, count, -1)
		}
	}
}

// followsIs fails the test unless Follows(last, first) answers want.
func followsIs(t *testing.T, last, first int64, want bool) {
	t.Helper()
	if Follows(last, first) != want {
		t.Errorf("P5.1: Follows(%d, %d): %v, want %v", last, first, !want, want)
	}
}

func TestFollowsKnownPairs(t *testing.T) {
	const most = api.MaxSeq
	for _, c := range []struct {
		last, first int64
		want        bool
	}{
		{-1, 0, true},
		{-1, 1, false},
		{-1, -1, false},
		{-1, most, false},
		{-1, most + 1, false},
		{0, 1, true},
		{0, 0, false},
		{0, -1, false},
		{0, 2, false},
		{1, 0, false},
		{most, 0, true},
		{most, 1, false},
		{most, most, false},
		{most, most + 1, false},
		{most, -1, false},
		{most - 1, most, true},
		{most - 1, 0, false},
		{-2, -1, false},
		{-2, 0, false},
		{most + 1, -1, false},
		{most + 1, 0, false},
		{most + 1, 1, false},
		{most + 1, most + 2, false},
	} {
		followsIs(t, c.last, c.first, c.want)
	}
}

func TestFollowsBehindNumbers(t *testing.T) {
	for _, last := range rights() {
		next := along(last, 1)
		followsIs(t, last, next, true)
		for _, first := range rights() {
			followsIs(t, last, first, first == next)
		}
		for _, first := range wrongs() {
			followsIs(t, last, first, false)
		}
		// These would be the next number if whole rounds were left out.
		followsIs(t, last, next+all, false)
		followsIs(t, last, next-all, false)
		followsIs(t, last, next+1<<32, false)
	}
}

func TestFollowsBehindNone(t *testing.T) {
	for _, first := range append(rights(), wrongs()...) {
		followsIs(t, -1, first, first == 0)
	}
}

func TestFollowsBehindWrongNumbers(t *testing.T) {
	for _, last := range wrongs() {
		if last == -1 {
			continue
		}
		for _, first := range append(rights(), wrongs()...) {
			followsIs(t, last, first, false)
		}
		followsIs(t, last, along(last, 1), false)
		followsIs(t, last, last+1, false)
	}
}

// gapIs fails the test unless Gap(a, b) answers want.
func gapIs(t *testing.T, a, b, want int64) {
	t.Helper()
	if got := Gap(a, b); got != want {
		t.Errorf("P5.1: Gap(%d, %d): %d, want %d", a, b, got, want)
	}
}

func TestGapKnownSteps(t *testing.T) {
	const most = api.MaxSeq
	for _, c := range []struct{ a, b, want int64 }{
		{0, 0, 0},
		{most, most, 0},
		{0, most, most},
		{most, 0, 1},
		{0, 1, 1},
		{1, 0, most},
		{3, 5, 2},
		{5, 3, most - 1},
		{most - 1, 1, 3},
		{1, most - 1, most - 2},
		{1 << 30, 0, 1 << 30},
		{0, 1 << 30, 1 << 30},
	} {
		gapIs(t, c.a, c.b, c.want)
	}
}

func TestGapAgreesWithWideSums(t *testing.T) {
	for _, a := range rights() {
		for _, b := range rights() {
			away := new(big.Int).Sub(big.NewInt(b), big.NewInt(a))
			want := away.Mod(away, big.NewInt(all)).Int64()
			gapIs(t, a, b, want)
			addIs(t, a, int(want), b)
		}
	}
}

func TestGapRefuses(t *testing.T) {
	for _, a := range wrongs() {
		for _, b := range rights() {
			gapIs(t, a, b, -1)
			gapIs(t, b, a, -1)
		}
		for _, b := range wrongs() {
			gapIs(t, a, b, -1)
		}
	}
}
