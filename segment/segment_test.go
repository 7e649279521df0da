package segment

import (
	"bytes"
	"encoding/binary"
	"math"
	"slices"
	"strings"
	"testing"

	"bordereau/api"
	"bordereau/batch"
)

// data returns data of a producer, with records that have these keys.
func data(producer int64, epoch int, seq int64, txn bool, keys ...string) api.Batch {
	b := api.Batch{Producer: producer, Epoch: epoch, Seq: seq, Txn: txn}
	for _, k := range keys {
		b.Recs = append(b.Recs, api.Rec{Key: k, Value: "<" + k + ">"})
	}
	return b
}

// free returns data of no producer.
func free(keys ...string) api.Batch {
	return data(-1, -1, -1, false, keys...)
}

// marker returns a marker of that kind.
func marker(producer int64, epoch, kind int) api.Batch {
	return api.Batch{Producer: producer, Epoch: epoch, Seq: -1, Txn: true, Marker: kind}
}

// greatest returns data that has as many bytes as data can have.
func greatest() api.Batch {
	b := free()
	long := strings.Repeat("x", api.MaxText)
	b.Recs = slices.Repeat([]api.Rec{{Key: long, Value: long}}, api.MaxRecords)
	return b
}

// rows returns rows of batches that still have no bases.
func rows() map[string][]api.Batch {
	var many []api.Batch
	for i := range 40 {
		many = append(many, data(int64(i%3), i, int64(7*i), i%2 == 0, strings.Split("abcdefghijklmnop", "")[:1+i%16]...))
	}
	return map[string][]api.Batch{
		"one of data":       {data(1, 0, 0, false, "a")},
		"one of no owner":   {free("a", "b", "c")},
		"one marker":        {marker(1, 0, api.Commit)},
		"the greatest one":  {greatest()},
		"two":               {free("a", "b"), free("c")},
		"two markers":       {marker(1, 0, api.Commit), marker(1, 0, api.Abort)},
		"two of one kind":   {free("a"), free("a")},
		"several sizes":     {free("a"), greatest(), free(""), free("a", "b", "c", "d"), greatest(), greatest(), free("世")},
		"a transaction":     {data(7, 1, 3, true, "a", "b"), data(7, 1, 5, true, "c"), marker(7, 1, api.Commit), data(7, 1, 6, false, "d")},
		"two transactions":  {data(1, 0, 0, true, "a"), data(2, 5, 9, true, "b", "c"), marker(1, 0, api.Abort), free("d", "e", "f"), marker(2, 5, api.Commit)},
		"seqs out of order": {data(1, 3, 9, false, "a"), data(1, 2, 0, false, "b"), data(1, 3, 9, false, "a")},
		"many":              many,
	}
}

// row is a row of batches, as it stands in a file.
type row struct {
	base int64
	l    []api.Batch
	p    []byte
	// ends and at have one number more than there are batches: of n batches, the end is ends[n], and at[n] the bytes.
	ends []int64
	at   []int
}

// offsets is how many offsets b takes.
func offsets(b api.Batch) int64 {
	if b.Marker == api.Commit || b.Marker == api.Abort {
		return 1
	}
	return int64(len(b.Recs))
}

// written returns l as a row that begins with that base.
func written(t *testing.T, base int64, l ...api.Batch) row {
	t.Helper()
	r := row{base: base, ends: []int64{base}, at: []int{0}}
	for _, b := range l {
		b.Base = base
		p, why := batch.Bytes(b)
		if why != api.OK {
			t.Fatalf("batch.Bytes of %v: error %d", b, int(why))
		}
		base += offsets(b)
		r.l, r.p = append(r.l, b), append(r.p, p...)
		r.ends, r.at = append(r.ends, base), append(r.at, len(r.p))
	}
	return r
}

// piece returns the bytes of batch i of r alone.
func (r row) piece(i int) []byte {
	return bytes.Clone(r.p[r.at[i]:r.at[i+1]])
}

// moved returns p, which begins with a batch, with that base there, whatever it is: the checksum does not cover it.
func moved(p []byte, base int64) []byte {
	return append(binary.BigEndian.AppendUint64(nil, uint64(base)), p[8:]...)
}

// equal reports in another way than batch.Same whether all fields are equal.
func equal(a, b api.Batch) bool {
	l, m := a.Recs, b.Recs
	a.Recs, b.Recs = nil, nil
	return slices.Equal(l, m) && a.Base == b.Base && a.Producer == b.Producer && a.Epoch == b.Epoch &&
		a.Seq == b.Seq && a.Txn == b.Txn && a.Marker == b.Marker
}

// scans fails the test unless Scan of p answers the first n batches of r, and all other functions what follows from that.
func scans(t *testing.T, what string, p []byte, r row, n int) {
	t.Helper()
	l, at := Scan(p, r.base)
	if !slices.EqualFunc(l, r.l[:n], equal) || at != r.at[n] {
		t.Fatalf("P9.1: Scan of %s: %d batches, %d bytes, want %d, %d: %v", what, len(l), at, n, r.at[n], l)
	}
	if got := Next(l, r.base); got != r.ends[n] {
		t.Fatalf("P9.1: Next behind Scan of %s: %d, want %d", what, got, r.ends[n])
	}
	for _, offset := range []int64{math.MinInt64, -1, r.base, r.base + 1, r.ends[n] - 1, r.ends[n], math.MaxInt64} {
		asks(t, what, p, r, n, offset)
	}
}

// asks fails the test unless From and Cut with that offset answer what they have to, Scan of p being the first n batches of r.
func asks(t *testing.T, what string, p []byte, r row, n int, offset int64) {
	t.Helper()
	k := 0
	for k < n && r.ends[k+1] <= offset {
		k++
	}
	if got := From(p, nil, r.base, offset); !slices.EqualFunc(got, r.l[k:n], equal) {
		t.Fatalf("P9.1: From %d of %s, with nil: %d batches, want %d: %v", offset, what, len(got), n-k, got)
	}
	if got := Cut(p, r.base, offset); got != r.at[k] {
		t.Fatalf("P9.1: Cut at %d of %s: %d, want %d", offset, what, got, r.at[k])
	}
}

// empty fails the test unless there are no batches in p.
func empty(t *testing.T, what string, p []byte, base int64) {
	t.Helper()
	l, at := Scan(p, base)
	if len(l) > 0 || at != 0 {
		t.Fatalf("P9.1: Scan of %s, from %d: %v, %d, want no batches, 0", what, base, l, at)
	}
	if got := Next(l, base); got != base {
		t.Fatalf("P9.1: Next behind Scan of %s: %d, want %d", what, got, base)
	}
	for _, offset := range []int64{math.MinInt64, -1, 0, base, math.MaxInt64} {
		if got := From(p, nil, base, offset); len(got) > 0 {
			t.Fatalf("P9.1: From %d of %s, from %d: %v, want no batches", offset, what, base, got)
		}
		if got := Cut(p, base, offset); got != 0 {
			t.Fatalf("P9.1: Cut at %d of %s, from %d: %d, want 0", offset, what, base, got)
		}
	}
}

func TestExamples(t *testing.T) {
	if l, at := Scan([]byte{}, 5); len(l) > 0 || at != 0 {
		t.Errorf("P9.1: Scan of an empty byte string with base 5: %v, %d", l, at)
	}
	r := written(t, 5, free("a", "b"), free("c"), free("d"))
	p := slices.Concat(r.piece(0), moved(r.piece(1), 8), r.piece(2))
	if l, at := Scan(p, 5); len(l) != 1 || !equal(l[0], r.l[0]) || at != r.at[1] {
		t.Errorf("P9.1: a batch with another Base: %v, %d", l, at)
	}
	x, ok := Build(r.p, 5, 1)
	if !ok || x == nil {
		t.Fatalf("P9.1: Build: %v, %v", x, ok)
	}
	for offset := int64(4); offset < 11; offset++ {
		if got, want := From(r.p, nil, 5, offset), From(r.p, x, 5, offset); !slices.EqualFunc(got, want, equal) {
			t.Errorf("P9.1: From %d with a nil index: %v, with one: %v", offset, got, want)
		}
	}
}

func TestWholeRows(t *testing.T) {
	for what, l := range rows() {
		for _, base := range []int64{0, 1, 5, 1 << 32, api.MaxOffset - 1000, api.MaxOffset + 1 - tall(l)} {
			r := written(t, base, l...)
			scans(t, what, r.p, r, len(r.l))
			for n := range len(r.l) {
				scans(t, what+", the first ones", r.p[:r.at[n]], r, n)
			}
		}
	}
}

// tall is how many offsets the batches ahead of the last one take, and one more: the last one has that base, counted from 1.
func tall(l []api.Batch) int64 {
	n := int64(1)
	for _, b := range l[:len(l)-1] {
		n += offsets(b)
	}
	return n
}

func TestNoBatch(t *testing.T) {
	bases := []int64{math.MinInt64, -1, 0, 1, 5, api.MaxOffset - 1, api.MaxOffset, api.MaxOffset + 1, math.MaxInt64}
	for _, base := range bases {
		for what, p := range map[string]string{
			"nil": "", "a zero byte": "\x00", "eleven bytes": "01234567890", "twelve zero bytes": strings.Repeat("\x00", 12),
			"zero bytes": strings.Repeat("\x00", 5000), "bytes of ones": strings.Repeat("\xff", 5000), "a text": strings.Repeat("no batch at all. ", 300),
		} {
			empty(t, what, []byte(p), base)
		}
		empty(t, "an empty byte string", []byte{}, base)
		empty(t, "nil", nil, base)
	}
	r := written(t, 5, free("a", "b"), free("c"))
	for n := 1; n < r.at[1]; n++ {
		empty(t, "a batch without its first bytes", r.piece(0)[n:], 5)
	}
	empty(t, "rubbish ahead of batches", append([]byte{0}, r.p...), 5)
}

func TestAnotherBaseAhead(t *testing.T) {
	for what, l := range rows() {
		r := written(t, 100, l...)
		for _, base := range []int64{math.MinInt64, -100, -1, 0, 1, 98, 99, 101, 102, r.ends[1], r.ends[len(l)], 100 + 1<<8, 100 + 1<<32, api.MaxOffset, math.MaxInt64} {
			if base != 100 {
				empty(t, what+" that begin with 100", r.p, base)
				empty(t, what+", the first one of them moved", moved(r.p, base), 100)
			}
		}
	}
}

func TestAnotherBaseBehind(t *testing.T) {
	for what, l := range rows() {
		r := written(t, 100, l...)
		for i := 1; i < len(l); i++ {
			right := r.ends[i]
			for _, base := range []int64{math.MinInt64, -1, 0, 100, right - offsets(l[i-1]), right - 1, right + 1, right + offsets(l[i]), right ^ 1<<40, right + 1<<41, math.MaxInt64} {
				if base != right {
					scans(t, what+", one of them moved", slices.Concat(r.p[:r.at[i]], moved(r.p[r.at[i]:], base)), r, i)
				}
			}
			scans(t, what+", one of them twice", slices.Concat(r.p[:r.at[i]], r.p[r.at[i-1]:]), r, i)
			// Where the base is right, what stands behind may be another batch.
			again := written(t, right, l...)
			whole := written(t, 100, append(slices.Clone(l[:i]), l...)...)
			scans(t, what+", and again", slices.Concat(r.p[:r.at[i]], again.p), whole, len(whole.l))
		}
		for i := range len(l) - 1 {
			scans(t, what+", without one of them", slices.Concat(r.p[:r.at[i]], r.p[r.at[i+1]:]), r, i)
		}
	}
}

// held is how many batches of r lie in its first n bytes whole.
func held(r row, n int) int {
	k := 0
	for k < len(r.l) && r.at[k+1] <= n {
		k++
	}
	return k
}

// small are the rows that are short enough for a test at each of their bytes.
func small() map[string][]api.Batch {
	out := rows()
	delete(out, "many")
	delete(out, "several sizes")
	delete(out, "the greatest one")
	return out
}

func TestCutOff(t *testing.T) {
	for what, l := range small() {
		r := written(t, 9, l...)
		for n := range len(r.p) + 1 {
			scans(t, what+", cut off", bytes.Clone(r.p[:n]), r, held(r, n))
			// The bytes that are missing stand in the spare capacity, which is not to be read.
			scans(t, what+", cut off ahead of spare capacity", r.p[:n], r, held(r, n))
		}
	}
	r := written(t, 9, greatest(), greatest())
	for _, n := range []int{0, 1, 12, r.at[1] - 1, r.at[1], r.at[1] + 1, r.at[1] + 12, r.at[2] - 1, r.at[2]} {
		scans(t, "the greatest ones, cut off", r.p[:n], r, held(r, n))
	}
}

func TestTurnedBytes(t *testing.T) {
	for what, l := range small() {
		r := written(t, 9, l...)
		for i := range r.p {
			for _, turn := range []byte{1, 2, 16, 64, 128, 255} {
				p := bytes.Clone(r.p)
				p[i] ^= turn
				scans(t, what+", with a byte turned", p, r, held(r, i))
			}
		}
	}
}

// common is how many bytes p and q have in common, from the beginning.
func common(p, q []byte) int {
	n := 0
	for n < len(p) && n < len(q) && p[n] == q[n] {
		n++
	}
	return n
}

// A byte more or less shifts all that is behind it, but where it stands ahead of its like: there, it shifts what is behind that one.
func TestShifted(t *testing.T) {
	r := written(t, 9, free("a", "b"), marker(3, 1, api.Abort), free("c"))
	for i := range r.p {
		p := slices.Delete(bytes.Clone(r.p), i, i+1)
		scans(t, "a byte less", p, r, held(r, common(p, r.p)))
		for _, x := range []byte{0, 'x', 255} {
			p := slices.Insert(bytes.Clone(r.p), i, x)
			scans(t, "a byte more", p, r, held(r, common(p, r.p)))
		}
	}
}

func TestRubbishBehind(t *testing.T) {
	other := written(t, 77, free("z"))
	for what, l := range rows() {
		r := written(t, 9, l...)
		for _, behind := range []string{"\x00", "\xff", "rubbish", strings.Repeat("\x00", 12), strings.Repeat("\x00", 4096), strings.Repeat("\xff", 4096), string(other.p), "\x00" + string(r.p)} {
			scans(t, what+", and rubbish", append(bytes.Clone(r.p), behind...), r, len(l))
		}
		// Behind rubbish, no batch counts, not even one whose base is right.
		next := written(t, r.ends[len(l)], free("y"))
		scans(t, what+", rubbish, and the next one", slices.Concat(r.p, []byte("?"), next.p), r, len(l))
		scans(t, what+", another one, and the next one", slices.Concat(r.p, moved(other.p, 1<<30), next.p), r, len(l))
	}
}

func TestBases(t *testing.T) {
	for _, l := range [][]api.Batch{{free("a", "b")}, {marker(1, 0, api.Commit)}, {greatest()}, {free("a", "b"), free("c")}} {
		for _, base := range []int64{0, 1, api.MaxOffset - 2, api.MaxOffset - 1, api.MaxOffset} {
			if base+tall(l)-1 > api.MaxOffset {
				continue
			}
			r := written(t, base, l...)
			scans(t, "a base that may be", r.p, r, len(l))
			empty(t, "a base and one more", r.p, base+1)
			empty(t, "a base and one less", r.p, base-1)
		}
		r := written(t, 9, l...)
		for _, base := range []int64{math.MinInt64, -2, -1, api.MaxOffset + 1, api.MaxOffset + 2, math.MaxInt64 - 1, math.MaxInt64} {
			empty(t, "a base that may not be", moved(r.p, base), base)
		}
	}
}

// No batch follows one that ends behind MaxOffset, though its end is told.
func TestTheLastOffset(t *testing.T) {
	for _, b := range []api.Batch{free("a"), free("a", "b", "c"), marker(1, 0, api.Abort), greatest()} {
		r := written(t, api.MaxOffset-1, free("z"), b)
		scans(t, "the last one", r.p, r, 2)
		if want := api.MaxOffset + offsets(b); r.ends[2] != want {
			t.Fatalf("the row ends at %d, want %d", r.ends[2], want)
		}
		scans(t, "the last one, and one more", slices.Concat(r.p, moved(r.p, r.ends[2])), r, 2)
	}
}

func TestNext(t *testing.T) {
	at := func(base int64, b api.Batch) api.Batch {
		b.Base = base
		return b
	}
	for i, c := range []struct {
		l          []api.Batch
		base, want int64
	}{
		{nil, 0, 0}, {nil, 5, 5}, {[]api.Batch{}, 5, 5}, {nil, -1, -1}, {nil, math.MinInt64, math.MinInt64}, {[]api.Batch{}, math.MaxInt64, math.MaxInt64},
		{nil, api.MaxOffset, api.MaxOffset}, {nil, api.MaxOffset + 1, api.MaxOffset + 1},
		{[]api.Batch{at(5, free("a"))}, 5, 6}, {[]api.Batch{at(5, free("a", "b"))}, 5, 7}, {[]api.Batch{at(5, marker(1, 0, api.Commit))}, 5, 6},
		{[]api.Batch{at(0, greatest())}, 0, 16}, {[]api.Batch{at(api.MaxOffset, greatest())}, 0, api.MaxOffset + 16},
		// The base is that of an empty list alone.
		{[]api.Batch{at(5, free("a"))}, 100, 6}, {[]api.Batch{at(0, free("a"))}, -1, 1},
		// The last one alone counts, even of a list that Scan does not return.
		{[]api.Batch{at(5, free("a")), at(6, free("b", "c"))}, 5, 8}, {[]api.Batch{at(5, free("a", "b", "c")), at(8, marker(1, 0, api.Abort))}, 5, 9},
		{[]api.Batch{at(50, free("a")), at(6, free("b", "c"))}, 5, 8}, {[]api.Batch{{}, at(6, free("b"))}, 5, 7},
		// These are not valid, and have an end all the same.
		{[]api.Batch{at(5, free("a")), {Base: 9}}, 5, 9}, {[]api.Batch{{Base: 9, Marker: 7}}, 5, 10}, {[]api.Batch{{Base: 9, Marker: -1}}, 5, 10},
		{[]api.Batch{{Base: 9, Marker: api.Commit, Recs: free("a", "b").Recs}}, 5, 10}, {[]api.Batch{{Base: -9, Recs: free("a", "b").Recs}}, 5, -7},
		{[]api.Batch{{Base: 9, Recs: make([]api.Rec, 1000)}}, 5, 1009}, {[]api.Batch{{Base: math.MinInt64, Marker: 1}}, 0, math.MinInt64 + 1},
		{[]api.Batch{{Base: math.MaxInt64}}, 0, math.MaxInt64}, {[]api.Batch{{Base: math.MaxInt64 - 1, Marker: 1}}, 0, math.MaxInt64},
	} {
		if got := Next(c.l, c.base); got != c.want {
			t.Errorf("P9.1: Next, case %d, of %v with base %d: %d, want %d", i, c.l, c.base, got, c.want)
		}
	}
}
