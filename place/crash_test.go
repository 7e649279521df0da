package place_test

import (
	"fmt"
	"math/rand/v2"
	"slices"
	"testing"

	"bordereau/api"
	"bordereau/batch"
	"bordereau/files"
	"bordereau/place"
)

// drafts are what can be there as a draft: nil stands for no such file.
func drafts() [][]byte {
	return [][]byte{nil, {}, []byte("rubbish"), written(3), written(8), written(8)[:7]}
}

// settings calls f for a file system with each start, or none (-1), each draft, synced or not, and some deeds to be performed.
func settings(f func(what string, x *files.FS, before int64, all bool)) {
	for _, before := range []int64{-1, 0, 5, 8} {
		for i, draft := range drafts() {
			for deeds := range 5 {
				for _, synced := range []bool{false, true} {
					x := files.New()
					if before >= 0 {
						place.SetStart(x, before)
					}
					need := 3
					if draft != nil {
						x.Append("start.new", draft)
						need = 4
					}
					if synced {
						x.Sync("start.new")
					}
					x.Stop(deeds)
					f(fmt.Sprintf("of 8 behind %d, with the draft %d, stopped behind %d deeds,", before, i, deeds), x, before, deeds >= need)
				}
			}
		}
	}
}

// W4: wherever the file system stops while a start is being set, and whatever the crash keeps, that one or the one ahead of it is there.
func TestSetStartStoppedAndCrashed(t *testing.T) {
	settings(func(what string, x *files.FS, before int64, all bool) {
		place.SetStart(x, 8)
		want := before
		if all {
			want = 8
		}
		for keep := range int64(14) {
			for _, garble := range [][]byte{nil, {1, 1, 1}, {0, 255, 255}, {128}} {
				g := x.Copy()
				g.Crash([]int64{keep, keep, 14 - keep}, garble)
				starts(t, "behind a crash in SetStart "+what, g, want)
				// What the crash left is in nothing's way.
				deeds := 3
				if _, ok := g.Read("start.new"); ok {
					deeds = 4
				}
				sets(t, "behind a crash in SetStart "+what, g, 9, deeds)
			}
		}
	})
}

// A start that was set lasts through crashes, also those in which the next one is not set.
func TestAStartThatWasSetLasts(t *testing.T) {
	r := rand.New(rand.NewPCG(16, 4))
	for n := range 300 {
		f := with(others()...)
		latest := int64(-1)
		for range 30 {
			next := r.Int64N(api.MaxOffset + 1)
			deeds := r.IntN(7)
			f.Stop(deeds)
			_, draft := f.Read("start.new")
			why := place.SetStart(f, next)
			if need := 3; !draft && deeds >= need || deeds > need {
				latest = next
				if why != api.OK {
					t.Errorf("P16.1: SetStart, run %d: %d", n, int(why))
				}
			}
			f.Crash([]int64{r.Int64N(20), r.Int64N(20), r.Int64N(20)}, []byte{byte(r.IntN(2)), byte(r.IntN(256)), byte(r.IntN(256))})
			starts(t, fmt.Sprintf("behind crashes, run %d", n), f, latest)
		}
	}
}

// W4: behind any crash a prefix of the batches is there, with all that were synced.
func TestLoadBehindACrash(t *testing.T) {
	l := mixed(0)
	for cuts := range 64 {
		for synced := range len(l) + 1 {
			f, least := files.New(), synced
			for i, b := range l {
				if i > 0 && cuts>>i&1 == 1 {
					// As it must be where a log is not the last one any more.
					f.Sync(last(f))
					least = max(least, i)
				}
				if i == 0 || cuts>>i&1 == 1 {
					lay(f, b.Base)
				}
				f.Append(last(f), encoded(b))
				if i < synced {
					f.Sync(last(f))
				}
			}
			for keep := int64(0); keep < 300; keep += 13 {
				for _, garble := range []byte{0, 1, 255} {
					g := f.Copy()
					g.Crash(slices.Repeat([]int64{keep}, 7), slices.Repeat([]byte{garble}, 7))
					prefix(t, fmt.Sprintf("of division %b behind a crash that keeps %d bytes, garbled by %d,", cuts, keep, garble), g, l, least)
				}
			}
		}
	}
}

// last returns the name of the last log.
func last(f *files.FS) string {
	return logFile(slices.Max(place.Segments(f)))
}

// Even where a log that is not the last one was not synced, no batch is told of which one ahead is lost.
func TestLoadBehindACrashOfLogsThatWereNotSynced(t *testing.T) {
	l := mixed(0)
	r := rand.New(rand.NewPCG(16, 3))
	for cuts := range 64 {
		for range 200 {
			var keeps []int64
			var garble []byte
			for range 6 {
				keeps = append(keeps, r.Int64N(300))
				garble = append(garble, byte(max(0, r.IntN(512)-256)))
			}
			// Of the first logs all bytes are kept now and then, and of others just some whole batches.
			for i := range r.IntN(7) {
				keeps[i], garble[i] = int64(len(encoded(l[:1+r.IntN(6)]...))), 0
			}
			f := divided(l, cuts)
			f.Crash(keeps, garble)
			prefix(t, fmt.Sprintf("of division %b behind a crash that keeps %d bytes, garbled by %d,", cuts, keeps, garble), f, l, 0)
		}
	}
}

// prefix fails the test unless Load tells a prefix of the batches, with so many of them or more.
func prefix(t *testing.T, what string, f *files.FS, l []api.Batch, least int) {
	t.Helper()
	start, got := place.Load(f)
	if start != 0 || len(got) < least || len(got) > len(l) || !slices.EqualFunc(got, l[:min(len(got), len(l))], batch.Same) {
		t.Errorf("W4: Load %s: %d, %v, want %d of %v", what, start, got, least, l)
	}
}

// Without garble, as much is told as the bytes that were kept hold.
func TestLoadOfWhatACrashKeeps(t *testing.T) {
	l := mixed(0)
	for synced := range len(l) + 1 {
		whole := len(encoded(l...))
		for keep := range whole + 2 {
			f := files.New()
			lay(f, 0, l[:synced]...)
			f.Sync(logFile(0))
			lay(f, 0, l[synced:]...)
			f.Crash([]int64{int64(keep)}, nil)
			n := synced
			for n < len(l) && len(encoded(l[synced:n+1]...)) <= keep {
				n++
			}
			loads(t, fmt.Sprintf("with %d bytes kept behind %d batches", keep, synced), f, 0, l[:n]...)
		}
	}
}
