package place_test

import (
	"bytes"
	"fmt"
	"testing"

	"bordereau/api"
	"bordereau/files"
	"bordereau/place"
)

// clean fails the test unless Clean answers want.
func clean(t *testing.T, what string, f *files.FS, want bool) {
	t.Helper()
	ask(t, f)
	if got := place.Clean(f); got != want {
		t.Errorf("P16.1: Clean %s: %v", what, got)
	}
}

// cleans fails the test unless SetClean is OK, is so many deeds, leaves the mark as asked, and all else as it is.
func cleans(t *testing.T, what string, f *files.FS, on bool, deeds int) {
	t.Helper()
	was, before := state(f, "clean"), f.Deeds()
	if why := place.SetClean(f, on); why != api.OK {
		t.Errorf("P16.1: SetClean(%v) %s: %d", on, what, int(why))
	}
	if got := f.Deeds() - before; got != deeds {
		t.Errorf("P16.1: SetClean(%v) %s: %d deeds, want %d", on, what, got, deeds)
	}
	clean(t, fmt.Sprintf("behind SetClean(%v) %s", on, what), f, on)
	if _, ok := f.Read("clean"); ok != on {
		t.Errorf("P16.1: SetClean(%v) %s: the file is there: %v", on, what, ok)
	}
	if got := state(f, "clean"); got != was {
		t.Errorf("P16.1: SetClean(%v) %s: other files are %s, want %s", on, what, got, was)
	}
}

func TestSetClean(t *testing.T) {
	for _, f := range []*files.FS{files.New(), with(others()...), with("start", "start.new", logFile(3), "clean.", "clean.new")} {
		clean(t, "of no such file", f, false)
		cleans(t, "of what is not clean", f, false, 0)
		for range 3 {
			cleans(t, "of what is not clean", f, true, 2)
			same(t, "SetClean(true)", f, "clean", []byte{1})
			cleans(t, "of what is clean", f, true, 0)
			same(t, "SetClean(true), again", f, "clean", []byte{1})
			cleans(t, "of what is clean", f, false, 1)
			cleans(t, "of what is not clean any more", f, false, 0)
		}
	}
}

// wrongMarks are bytes that are not the byte 1 only.
func wrongMarks() [][]byte {
	out := [][]byte{{}, {1, 1}, {1, 0}, {0, 1}, {1, 1, 1}, {'1'}, []byte("clean"), []byte("true"), bytes.Repeat([]byte{1}, 300)}
	for x := range 256 {
		if x != 1 {
			out = append(out, []byte{byte(x)})
		}
	}
	return out
}

func TestCleanOfOtherBytes(t *testing.T) {
	for i, b := range wrongMarks() {
		what := fmt.Sprintf("of other bytes, case %d, %v,", i, b)
		f := with(others()...)
		f.Append("clean", b)
		clean(t, what, f, false)
		if i%2 == 0 {
			f.Sync("clean")
		}
		g := f.Copy()
		cleans(t, what, f, true, 3)
		same(t, "SetClean(true) "+what, f, "clean", []byte{1})
		cleans(t, what, g, false, 1)
	}
}

func TestCleanOfTheByteOne(t *testing.T) {
	f := files.New()
	f.Append("clean", []byte{1})
	clean(t, "of what is not durable", f, true)
	// Nothing is done if Clean is true, though a crash can still take it.
	cleans(t, "of what is not durable", f, true, 0)
	if got := held(f, "clean"); got != `""|"\x01"` {
		t.Errorf("P16.1: SetClean(true) of what is clean already: %s", got)
	}
	f.Append("clean", nil)
	clean(t, "with no bytes behind it", f, true)
	f.Append("clean", []byte{1})
	clean(t, "with a byte behind it", f, false)
	f.Truncate("clean", 1)
	clean(t, "without it", f, true)
	f.Truncate("clean", 0)
	clean(t, "of an empty file", f, false)
	f = files.New()
	f.Append("clean.new", []byte{1})
	clean(t, "of another file", f, false)
}

func TestSetCleanLastsBehindACrash(t *testing.T) {
	for _, garble := range []byte{0, 1, 255} {
		f := files.New()
		place.SetClean(f, true)
		f.Crash(nil, []byte{garble})
		clean(t, "behind a crash", f, true)
		place.SetClean(f, false)
		f.Crash([]int64{9}, []byte{garble})
		clean(t, "that was taken away, behind a crash", f, false)
	}
}

// Wherever the file system stops, and whatever a crash keeps, there is the mark or there is none; with all deeds it is as asked.
func TestSetCleanStopped(t *testing.T) {
	for deeds := range 4 {
		for _, keep := range []int64{0, 1, 9} {
			for _, garble := range []byte{0, 1, 3} {
				f := files.New()
				f.Append("clean", []byte{2})
				f.Sync("clean")
				g := f.Copy()
				f.Stop(deeds)
				place.SetClean(f, true)
				f.Crash([]int64{keep}, []byte{garble})
				if want := deeds == 3 || deeds == 2 && keep > 0 && garble == 0; place.Clean(f) != want {
					t.Errorf("W4: SetClean(true), stopped behind %d deeds, %d bytes kept: %v", deeds, keep, !want)
				}
				// There is no other file, so this many deeds take it away.
				cleans(t, "behind a crash", f, false, len(f.List()))
				g.Truncate("clean", 0)
				g.Append("clean", []byte{1})
				g.Sync("clean")
				g.Stop(deeds)
				place.SetClean(g, false)
				g.Crash([]int64{keep}, []byte{garble})
				if want := deeds == 0; place.Clean(g) != want {
					t.Errorf("W4: SetClean(false), stopped behind %d deeds, %d bytes kept: %v", deeds, keep, !want)
				}
			}
		}
	}
}

// The first error of Append or Sync is told.
func TestSetCleanOnAFileSystemThatHasStopped(t *testing.T) {
	for _, c := range []struct {
		what string
		file []byte
		on   bool
		left int
		want api.Errno
		held string
	}{
		{"no deed", nil, true, 0, api.ErrNone, "none"},
		{"the mark, not synced", nil, true, 1, api.OK, `""|"\x01"`},
		{"all deeds", nil, true, 2, api.OK, `"\x01"|""`},
		{"no deed, with other content", []byte{2}, true, 0, api.OK, `""|"\x02"`},
		{"the old one's end alone", []byte{2}, true, 1, api.ErrNone, "none"},
		{"the mark, not synced, for the old one", []byte{2}, true, 2, api.OK, `""|"\x01"`},
		{"all deeds, for the old one", []byte{2}, true, 3, api.OK, `"\x01"|""`},
		{"no deed, of what is clean", []byte{1}, true, 0, api.OK, `""|"\x01"`},
		{"no deed, to take it away", []byte{1}, false, 0, api.OK, `""|"\x01"`},
		{"no deed, to take other content away", []byte{7}, false, 0, api.OK, `""|"\a"`},
		{"a deed, to take it away", []byte{1}, false, 1, api.OK, "none"},
		{"no deed, to take none away", nil, false, 0, api.OK, "none"},
	} {
		f := files.New()
		if c.file != nil {
			f.Append("clean", c.file)
		}
		f.Stop(c.left)
		if why := place.SetClean(f, c.on); why != c.want {
			t.Errorf("P16.1: SetClean(%v), stopped: %s: %d, want %d", c.on, c.what, int(why), int(c.want))
		}
		if got := held(f, "clean"); got != c.held {
			t.Errorf("P16.1: SetClean(%v), stopped: %s: %s, want %s", c.on, c.what, got, c.held)
		}
	}
}

func TestSetCleanAmongAsManyFilesAsMayBe(t *testing.T) {
	f := full(api.MaxFiles)
	for _, left := range []int{-1, 0} {
		f.Stop(left)
		was, deeds := state(f), f.Deeds()
		if why := place.SetClean(f, true); why != api.ErrFull {
			t.Errorf("P16.1: SetClean(true) among MaxFiles files: %d", int(why))
		}
		if got := state(f); got != was || f.Deeds() != deeds {
			t.Errorf("R3: SetClean(true) among MaxFiles files: %s, want %s", got, was)
		}
		cleans(t, "among MaxFiles files", f, false, 0)
	}
	f = full(api.MaxFiles, "clean")
	cleans(t, "among MaxFiles files, with other content", f, true, 3)
	cleans(t, "among MaxFiles files, of what is clean", f, true, 0)
	cleans(t, "among MaxFiles files, of what is clean", f, false, 1)
	cleans(t, "among one file fewer", f, true, 2)
}
