package place_test

import (
	"fmt"
	"math/rand/v2"
	"testing"

	"bordereau/api"
	"bordereau/batch"
	"bordereau/files"
	"bordereau/place"
)

// end is the offset behind b.
func end(b api.Batch) int64 {
	if b.Marker != 0 {
		return b.Base + 1
	}
	return b.Base + int64(len(b.Recs))
}

// from returns the batches of l that begin at start or behind it.
func from(l []api.Batch, start int64) []api.Batch {
	var out []api.Batch
	for _, b := range l {
		if b.Base >= start {
			out = append(out, b)
		}
	}
	return out
}

// divided returns a file system with the batches in logs: a new one begins at the batch i where the bit i of cuts is 1.
func divided(l []api.Batch, cuts int) *files.FS {
	f := files.New()
	log := int64(0)
	for i, b := range l {
		if i == 0 || cuts>>i&1 == 1 {
			log = b.Base
		}
		lay(f, log, b)
	}
	return f
}

func TestLoad(t *testing.T) {
	l := mixed(0)
	for _, f := range []*files.FS{files.New(), with(others()...)} {
		loads(t, "without logs", f, 0)
		place.SetStart(f, 5)
		loads(t, "without logs, from a start", f, 5)
		place.SetStart(f, 0)
		for i, b := range l {
			lay(f, 0, b)
			loads(t, fmt.Sprintf("of %d batches in one log", i+1), f, 0, l[:i+1]...)
		}
	}
	loads(t, "of a log each", divided(l, 63), 0, l...)
	loads(t, "of two batches a log", divided(l, 0b010100), 0, l...)
	loads(t, "of three batches a log", divided(l, 0b001000), 0, l...)
}

// W5: however the batches are divided, and whatever else is there, what is told from a start is the same.
func TestLoadOfEveryDivision(t *testing.T) {
	l := mixed(0)
	for cuts := range 64 {
		for _, start := range []int64{-1, 0, 1, 2, 3, 4, 5, 6, 7, 8, 9, 10, 11, 12, 13, 1000, api.MaxOffset} {
			f := divided(l, cuts)
			if start >= 0 {
				place.SetStart(f, start)
			}
			for _, clean := range []bool{false, true} {
				place.SetClean(f, clean)
				loads(t, fmt.Sprintf("of division %b from %d", cuts, start), f, max(start, 0), from(l, start)...)
				for _, s := range others() {
					f.Append(s, encoded(l...))
				}
			}
		}
	}
}

// The logs that a start is behind of can be there or not, whole or not.
func TestLoadWithoutTheLogsThatAStartIsBehindOf(t *testing.T) {
	l := mixed(0)
	for i, b := range l {
		for start := b.Base; start < end(b); start++ {
			for _, x := range spoils() {
				f := divided(l, 63)
				place.SetStart(f, start)
				for _, gone := range l[:i] {
					x.does(f, logFile(gone.Base))
				}
				loads(t, fmt.Sprintf("from %d, with the logs ahead of %d %s", start, b.Base, x.what), f, start, from(l, start)...)
			}
		}
	}
}

// spoil makes a log another one.
type spoil struct {
	what string
	does func(f *files.FS, log string)
}

// spoils leave no batch of a log, of which each is longer than some bytes.
func spoils() []spoil {
	return []spoil{
		{"gone", func(f *files.FS, log string) { f.Remove(log) }},
		{"empty", func(f *files.FS, log string) { f.Truncate(log, 0) }},
		{"cut off in the first batch", func(f *files.FS, log string) { f.Truncate(log, 20) }},
		{"turned", func(f *files.FS, log string) {
			p, _ := f.Read(log)
			p[20] ^= 1
			f.Remove(log)
			f.Append(log, p)
		}},
		{"rubbish", func(f *files.FS, log string) { f.Remove(log); f.Append(log, []byte("rubbish")) }},
		{"of another base", func(f *files.FS, log string) { f.Remove(log); f.Append(log, encoded(free(77, 1))) }},
		{"of a greater base", func(f *files.FS, log string) {
			p, _ := f.Read(log)
			b, n, _ := batch.Read(p)
			p, _ = batch.Rebase(p[:n], b.Base+1)
			f.Remove(log)
			f.Append(log, p)
		}},
	}
}

// What is told ends where a log in the row has no batch at its base.
func TestLoadOfALogThatIsNotThere(t *testing.T) {
	l := mixed(0)
	for cuts := range 64 {
		for i := range l {
			if i > 0 && cuts>>i&1 == 0 {
				continue
			}
			for _, x := range spoils() {
				// All of these are in the first log, or ahead of the others if that is the one.
				for _, start := range []int64{-1, 0, 1} {
					f := divided(l, cuts)
					x.does(f, logFile(l[i].Base))
					if start >= 0 {
						place.SetStart(f, start)
					}
					loads(t, fmt.Sprintf("of division %b from %d, with the log %d %s", cuts, start, l[i].Base, x.what), f, max(start, 0), from(l[:i], start)...)
				}
			}
		}
	}
}

// Behind what a log ends with, if that is no batch, nothing is told, even if the next log begins where its batches end.
func TestLoadOfALogThatEndsWithRubbish(t *testing.T) {
	l := mixed(0)
	for i := range l {
		tails := [][]byte{{0}, {1}, []byte("rubbish"), make([]byte, 12), make([]byte, 300), encoded(l[0])[:5], encoded(free(end(l[i])+1, 1)), encoded(l[i])}
		next := encoded(free(end(l[i]), 3))
		for n := 1; n < len(next); n += 7 {
			tails = append(tails, next[:n])
		}
		turned := encoded(free(end(l[i]), 3))
		turned[len(turned)-1] ^= 4
		for n, tail := range append(tails, turned, next[:len(next)-1]) {
			what := fmt.Sprintf("with the tail %d at the end of log %d", n, i)
			f := divided(l, 63)
			f.Append(logFile(l[i].Base), tail)
			loads(t, what, f, 0, l[:i+1]...)
			place.SetStart(f, l[i].Base)
			loads(t, what+", from its base", f, l[i].Base, l[i])
			place.SetStart(f, end(l[i]))
			loads(t, what+", from behind it", f, end(l[i]), from(l, end(l[i]))...)
			// Cut away, it is as if it had never been there.
			f.Truncate(logFile(l[i].Base), len(encoded(l[i])))
			place.SetStart(f, 0)
			loads(t, what+", which was cut away", f, 0, l...)
		}
	}
}

func TestLoadOfALogThatIsCutOff(t *testing.T) {
	l := mixed(0)
	whole := encoded(l[:3]...)
	for n := range len(whole) + 1 {
		f := files.New()
		f.Append(logFile(0), whole[:n])
		lay(f, 6, l[3:]...)
		var want []api.Batch
		for i := range 3 {
			if len(encoded(l[:i+1]...)) <= n {
				want = l[:i+1]
			}
		}
		if n == len(whole) {
			want = l
		}
		loads(t, fmt.Sprintf("with %d bytes of the first log", n), f, 0, want...)
	}
}

func TestLoadOfLogsThatAreEmpty(t *testing.T) {
	l := mixed(0)
	f := divided(l, 0)
	lay(f, 11)
	loads(t, "with an empty log behind the last batch", f, 0, l...)
	lay(f, 11, free(11, 2))
	loads(t, "with a batch in it", f, 0, append(mixed(0), free(11, 2))...)
	f = divided(l[:3], 0)
	lay(f, 6)
	lay(f, 7, l[4:]...)
	loads(t, "with an empty log ahead of another one", f, 0, l[:3]...)
	place.SetStart(f, 6)
	loads(t, "from an empty log", f, 6)
	place.SetStart(f, 7)
	loads(t, "from behind an empty log", f, 7, l[4:]...)
	f = files.New()
	lay(f, 0)
	lay(f, 1, free(1, 1))
	loads(t, "with an empty first log", f, 0)
	// Ahead of a log that begins later, an empty one is the last whose base is at most the start.
	f = files.New()
	lay(f, 0)
	lay(f, 3)
	lay(f, 5, free(5, 1))
	place.SetStart(f, 4)
	loads(t, "of empty logs", f, 4)
}

func TestLoadOfStartsThatNoLogHas(t *testing.T) {
	l := mixed(20)
	for cuts := range 64 {
		for _, start := range []int64{-1, 0, 1, 19} {
			f := divided(l, cuts)
			if start >= 0 {
				place.SetStart(f, start)
			}
			loads(t, fmt.Sprintf("of a start ahead of the first log, %d", start), f, max(start, 0))
		}
		for _, start := range []int64{31, 32, 5000, api.MaxOffset} {
			f := divided(l, cuts)
			place.SetStart(f, start)
			loads(t, fmt.Sprintf("of a start behind the last batch, %d", start), f, start)
		}
	}
}

// Logs that overlap are no row: the one that is the last up to the start tells alone, as long as the next does not begin at its end.
func TestLoadOfLogsThatOverlap(t *testing.T) {
	l := mixed(0)
	f := divided(l[:4], 0)
	lay(f, 5, data(5, 7, 0, 0, false, 4))
	lay(f, 7, l[4:]...)
	lay(f, 9, free(9, 2))
	for _, c := range []struct {
		start int64
		want  []api.Batch
	}{
		{0, l[:4]}, {1, l[1:4]}, {2, l[1:4]}, {4, l[2:4]},
		{5, []api.Batch{data(5, 7, 0, 0, false, 4)}}, {6, nil},
		{7, l[4:]}, {8, l[5:]}, {9, []api.Batch{free(9, 2)}}, {10, nil}, {11, nil},
	} {
		place.SetStart(f, c.start)
		loads(t, fmt.Sprintf("of logs that overlap, from %d", c.start), f, c.start, c.want...)
	}
	// One that begins within another is in the way of the one that begins at the end of that.
	f = divided(l, 0b010000)
	loads(t, "of two logs", f, 0, l...)
	lay(f, 3)
	loads(t, "of two logs and one within the first", f, 0, l[:4]...)
	f.Remove(logFile(3))
	lay(f, 8, free(8, 1))
	loads(t, "of two logs and one within the second", f, 0, l...)
}

func TestLoadAtTheEndOfTheOffsets(t *testing.T) {
	for _, base := range []int64{api.MaxOffset - 11, api.MaxOffset - 10} {
		l := mixed(base)
		for cuts := range 64 {
			f := divided(l, cuts)
			loads(t, "of a start ahead of all", f, 0)
			for _, b := range l {
				place.SetStart(f, b.Base)
				loads(t, "at the end of the offsets", f, b.Base, from(l, b.Base)...)
			}
			place.SetStart(f, api.MaxOffset)
			loads(t, "at MaxOffset", f, api.MaxOffset, from(l, api.MaxOffset)...)
		}
	}
	// A batch may begin at MaxOffset, whatever its length; none can follow it.
	f := files.New()
	lay(f, api.MaxOffset, free(api.MaxOffset, api.MaxRecords))
	place.SetStart(f, api.MaxOffset)
	loads(t, "of a batch at MaxOffset", f, api.MaxOffset, free(api.MaxOffset, api.MaxRecords))
	place.SetStart(f, api.MaxOffset-1)
	loads(t, "of a batch at MaxOffset, from ahead of it", f, api.MaxOffset-1)
}

// Batches are read for what they are, not for what they mean: none of these would be accepted behind the one ahead of it.
func TestLoadAsksNotWhatABatchMeans(t *testing.T) {
	l := []api.Batch{mark(0, 5, 3, api.Abort), data(1, 5, 1, 9, true, 1), data(2, 5, 1, 9, true, 1), data(3, 5, 0, 0, false, 2), mark(5, 6, 0, api.Commit)}
	for cuts := range 32 {
		loads(t, "of batches that mean nothing", divided(l, cuts), 0, l...)
	}
}

// piece is a log of a layout: batches one after the other from base, and what is behind them.
type piece struct {
	base int64
	l    []api.Batch
	tail []byte
}

// seeded returns a layout by chance: a row of logs, some of which begin too late or too early, or end with a tail.
func seeded(r *rand.Rand) []piece {
	var out []piece
	at := int64(r.IntN(4))
	for range r.IntN(7) {
		p := piece{base: at}
		for range r.IntN(4) {
			b := free(at, 1+r.IntN(3))
			if r.IntN(3) == 0 {
				b = mark(at, 3, 0, api.Commit)
			}
			p.l = append(p.l, b)
			at = end(b)
		}
		if r.IntN(8) == 0 {
			p.tail = []byte("tail")
		}
		out = append(out, p)
		if r.IntN(5) == 0 {
			at += int64(r.IntN(5)) - 2
		}
		at = max(at, p.base+1)
	}
	return out
}

// told returns what Load tells of a layout, whose bases ascend: found from its end, by what every log says of the next one.
func told(l []piece, start int64) []api.Batch {
	var out []api.Batch
	for i := len(l) - 1; i >= 0; i-- {
		p := l[i]
		stop := p.base
		if n := len(p.l); n > 0 {
			stop = end(p.l[n-1])
		}
		if i == len(l)-1 || p.tail != nil || l[i+1].base != stop {
			out = nil
		}
		out = append(append([]api.Batch{}, p.l...), out...)
		if p.base <= start {
			return from(out, start)
		}
	}
	return nil
}

func TestLoadOfLayoutsByChance(t *testing.T) {
	r := rand.New(rand.NewPCG(16, 2))
	for n := range 1500 {
		l := seeded(r)
		f := files.New()
		for _, i := range r.Perm(len(l)) {
			lay(f, l[i].base, l[i].l...)
			f.Append(logFile(l[i].base), l[i].tail)
		}
		for start := int64(0); start < 40; start += 1 + int64(r.IntN(4)) {
			place.SetStart(f, start)
			loads(t, fmt.Sprintf("of layout %d, %v, from %d", n, l, start), f, start, told(l, start)...)
		}
	}
}
