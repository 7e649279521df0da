package place_test

import (
	"bytes"
	"fmt"
	"math"
	"slices"
	"testing"

	"bordereau/api"
	"bordereau/crc"
	"bordereau/files"
	"bordereau/place"
	"bordereau/varint"
)

// written are the bytes of a start, as the chapter tells them.
func written(n int64) []byte {
	return crc.Put(varint.Long(nil, n))
}

// starts fails the test unless the start is this one; none if it is -1.
func starts(t *testing.T, what string, f *files.FS, want int64) {
	t.Helper()
	ask(t, f)
	got, ok := place.Start(f)
	if got != max(want, 0) || ok != (want >= 0) {
		t.Errorf("P16.1: Start %s: %d, %v, want %d", what, got, ok, want)
	}
}

// sets fails the test unless SetStart is OK, is so many deeds, writes the start durable, and leaves all else as it is.
func sets(t *testing.T, what string, f *files.FS, n int64, deeds int) {
	t.Helper()
	was, before := state(f, "start", "start.new"), f.Deeds()
	if why := place.SetStart(f, n); why != api.OK {
		t.Errorf("P16.1: SetStart of %d %s: %d", n, what, int(why))
	}
	if got := f.Deeds() - before; got != deeds {
		t.Errorf("P16.1: SetStart of %d %s: %d deeds, want %d", n, what, got, deeds)
	}
	starts(t, "behind SetStart "+what, f, n)
	same(t, "behind SetStart "+what, f, "start", written(n))
	if got := state(f, "start"); got != was {
		t.Errorf("P16.1: SetStart %s: other files are %s, want %s", what, got, was)
	}
}

// goodStarts are offsets, the ends of their range among them.
func goodStarts() []int64 {
	return []int64{0, 7, 1, 255, 256, 1 << 31, 1<<32 - 1, 1 << 32, api.MaxOffset - 1, api.MaxOffset, 3, 0}
}

// wrongStarts are numbers that are no offsets.
func wrongStarts() []int64 {
	return []int64{-1, -2, -1 << 31, -1 << 40, math.MinInt64, math.MinInt64 + 1, api.MaxOffset + 1, api.MaxOffset + 2, 1 << 41, 1 << 62, math.MaxInt64 - 1, math.MaxInt64}
}

func TestStartOfNone(t *testing.T) {
	starts(t, "of a new file system", files.New(), -1)
	f := with(append(others(), "start.new", "start.", ".start", "start.new.new", "starts")...)
	f.Append("start.0", written(5))
	f.Remove("start.new")
	f.Append("start.new", written(5))
	starts(t, "beside other files", f, -1)
}

func TestSetStart(t *testing.T) {
	for _, f := range []*files.FS{files.New(), with(others()...), with("start"), with("start", "clean", logFile(3))} {
		for _, n := range goodStarts() {
			sets(t, "", f, n, 3)
			sets(t, "again", f, n, 3)
		}
	}
}

func TestSetStartOfEachOffsetBehindAnother(t *testing.T) {
	for _, a := range goodStarts() {
		for _, b := range goodStarts() {
			f := files.New()
			sets(t, "first", f, a, 3)
			sets(t, fmt.Sprintf("behind %d", a), f, b, 3)
		}
	}
}

func TestSetStartRefusesNumbers(t *testing.T) {
	for _, f := range []*files.FS{files.New(), with("start", "start.new"), with(others()...), full(api.MaxFiles), full(api.MaxFiles, "start.new")} {
		for _, n := range wrongStarts() {
			was, deeds := state(f), f.Deeds()
			if why := place.SetStart(f, n); why != api.ErrArg {
				t.Errorf("P16.1: SetStart of %d: %d", n, int(why))
			}
			if got := state(f); got != was || f.Deeds() != deeds {
				t.Errorf("R3: SetStart of %d, which is refused: %s, want %s", n, got, was)
			}
		}
	}
	f := files.New()
	place.SetStart(f, 9)
	for _, n := range wrongStarts() {
		place.SetStart(f, n)
		starts(t, "behind a start that was refused", f, 9)
	}
}

func TestSetStartWithADraftThatIsThere(t *testing.T) {
	for _, draft := range [][]byte{nil, {0}, []byte("rubbish"), written(3), written(9), written(9)[:5], append(written(9), 9), bytes.Repeat([]byte{9}, 300)} {
		for _, synced := range []bool{false, true} {
			for _, before := range []int64{-1, 4} {
				f := with(others()...)
				if before >= 0 {
					place.SetStart(f, before)
				}
				f.Append("start.new", draft)
				if synced {
					f.Sync("start.new")
				}
				starts(t, "beside a draft", f, before)
				sets(t, "with a draft", f, 9, 4)
				sets(t, "without the draft", f, 8, 3)
			}
		}
	}
}

// wrongFiles are bytes that are no start.
func wrongFiles() [][]byte {
	out := [][]byte{
		{}, []byte("start"), []byte("\x00\x00\x00\x00"), crc.Put(nil), crc.Put([]byte{5}), crc.Put(varint.Put(nil, 5)), crc.Put(varint.Long(nil, 5)[:7]),
		crc.Put(varint.Long(nil, 5)[1:]), crc.Put(append(varint.Long(nil, 5), 0)), crc.Put(append([]byte{0}, varint.Long(nil, 5)...)), crc.Put(varint.Long(varint.Long(nil, 5), 5)),
		crc.Put(varint.Text(nil, "5")), crc.Put([]byte("5")), crc.Put(crc.Put(varint.Long(nil, 5))), varint.Long(nil, 5), make([]byte, 12), make([]byte, 8),
		append(written(5), 0), append(written(5), written(5)...), append([]byte{0}, written(5)...), bytes.Repeat([]byte{0xff}, 12), crc.Put(make([]byte, 4000)),
	}
	for n := range len(written(5)) {
		out = append(out, written(5)[:n], written(5)[n+1:])
	}
	for _, n := range wrongStarts() {
		out = append(out, written(n))
	}
	// The bytes the other way round: of the sum, and of the number.
	back := written(5)
	slices.Reverse(back[:4])
	number := varint.Long(nil, 5)
	slices.Reverse(number)
	return append(out, back, crc.Put(number))
}

func TestStartOfOtherBytes(t *testing.T) {
	for i, b := range wrongFiles() {
		f := files.New()
		f.Append("start", b)
		starts(t, fmt.Sprintf("of bytes that are none, case %d, %v,", i, b), f, -1)
		lay(f, 0, mixed(0)...)
		loads(t, fmt.Sprintf("with a start that is none, case %d, %v,", i, b), f, 0, mixed(0)...)
		sets(t, "behind bytes that are none", f, 6, 3)
	}
}

func TestStartOfBytesThatWereTurned(t *testing.T) {
	for _, n := range goodStarts() {
		for i := range written(n) {
			for x := 1; x < 256; x++ {
				b := written(n)
				b[i] ^= byte(x)
				f := files.New()
				f.Append("start", b)
				if got, ok := place.Start(f); got != 0 || ok {
					t.Errorf("P16.1: Start of %v, which is %d with a byte turned: %d, %v", b, n, got, ok)
				}
			}
		}
	}
}

// A start may have been written in any pieces, and need not be durable to be told.
func TestStartOfWhatWasWrittenOtherwise(t *testing.T) {
	for _, n := range goodStarts() {
		f := files.New()
		for _, x := range written(n) {
			starts(t, "that is not whole yet", f, -1)
			f.Append("start", []byte{x})
		}
		starts(t, "that was written byte by byte", f, n)
		f.Append("start", []byte{0})
		starts(t, "with a byte behind it", f, -1)
		f.Truncate("start", 12)
		starts(t, "without it", f, n)
		f.Remove("start")
		starts(t, "that was removed", f, -1)
	}
}

func TestSetStartAmongAsManyFilesAsMayBe(t *testing.T) {
	for _, c := range []struct {
		what  string
		f     *files.FS
		want  api.Errno
		deeds int
	}{
		{"no start", full(api.MaxFiles), api.ErrFull, 0},
		{"a start", full(api.MaxFiles, "start"), api.ErrFull, 0},
		{"a draft", full(api.MaxFiles, "start.new"), api.OK, 4},
		{"both", full(api.MaxFiles, "start", "start.new"), api.OK, 4},
		{"one file fewer", full(api.MaxFiles-1, "start"), api.OK, 3},
		{"one file fewer and no start", full(api.MaxFiles - 1), api.OK, 3},
	} {
		if c.want == api.OK {
			sets(t, "among MaxFiles files, with "+c.what, c.f, 5, c.deeds)
			continue
		}
		was, deeds := state(c.f), c.f.Deeds()
		if why := place.SetStart(c.f, 5); why != c.want {
			t.Errorf("P16.1: SetStart among MaxFiles files, with %s: %d, want %d", c.what, int(why), int(c.want))
		}
		if got := state(c.f); got != was || c.f.Deeds() != deeds {
			t.Errorf("R3: SetStart among MaxFiles files, with %s: %s, want %s", c.what, got, was)
		}
		c.f.Stop(0)
		if why := place.SetStart(c.f, 5); why != c.want {
			t.Errorf("P16.1: SetStart among MaxFiles files, with %s, and stopped: %d, want %d", c.what, int(why), int(c.want))
		}
	}
	// A start that was set stays, whatever is refused.
	f := files.New()
	place.SetStart(f, 6)
	for i := range api.MaxFiles - 1 {
		f.Append(fmt.Sprintf("f%02d", i), nil)
	}
	if why := place.SetStart(f, 5); why != api.ErrFull {
		t.Errorf("P16.1: SetStart with no room for a draft: %d", int(why))
	}
	starts(t, "behind SetStart with no room for a draft", f, 6)
	same(t, "behind SetStart with no room for a draft", f, "start", written(6))
}

// Where the file system has stopped, a draft that could not be made can't be synced either; with the deeds that are left it is as for any call.
func TestSetStartOnAFileSystemThatHasStopped(t *testing.T) {
	for _, c := range []struct {
		what  string
		draft bool
		left  int
		want  api.Errno
		files string
		start int64
	}{
		{"no deed", false, 0, api.ErrNone, "[start]", 4},
		{"the draft alone", false, 1, api.OK, "[start start.new]", 4},
		{"the draft, synced", false, 2, api.OK, "[start start.new]", 4},
		{"all deeds", false, 3, api.OK, "[start]", 9},
		{"more deeds", false, 4, api.OK, "[start]", 9},
		{"no deed, with a draft", true, 0, api.OK, "[start start.new]", 4},
		{"the old draft's end alone", true, 1, api.ErrNone, "[start]", 4},
		{"the draft alone, for the old one", true, 2, api.OK, "[start start.new]", 4},
		{"the draft, synced, for the old one", true, 3, api.OK, "[start start.new]", 4},
		{"all deeds, for the old one", true, 4, api.OK, "[start]", 9},
		{"more deeds, for the old one", true, 5, api.OK, "[start]", 9},
	} {
		f := files.New()
		place.SetStart(f, 4)
		if c.draft {
			f.Append("start.new", []byte("old"))
		}
		f.Stop(c.left)
		if why := place.SetStart(f, 9); why != c.want {
			t.Errorf("P16.1: SetStart, stopped: %s: %d, want %d", c.what, int(why), int(c.want))
		}
		if got := fmt.Sprint(f.List()); got != c.files {
			t.Errorf("P16.1: SetStart, stopped: %s: the files %s, want %s", c.what, got, c.files)
		}
		starts(t, "behind SetStart, stopped: "+c.what, f, c.start)
		f.Crash(nil, nil)
		starts(t, "behind a crash, stopped: "+c.what, f, c.start)
	}
}
