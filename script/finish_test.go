package script_test

import (
	"math"
	"slices"
	"testing"

	"imago/api"
	"imago/pmem"
	"imago/script"
	"imago/vfs"
)

// wantFinish finishes, and asks for what is told.
func wantFinish(t *testing.T, what string, f *vfs.FS, most, n int, done bool) {
	t.Helper()
	if m, ok := script.Finish(f, most); m != n || ok != done {
		t.Errorf("%s: of at most %d there were %d, %v, want %d, %v", what, most, m, ok, n, done)
	}
}

// P13.1: how many steps there were, and whether one told that all is done.
func TestFinish(t *testing.T) {
	for _, format := range formats {
		for _, x := range []struct {
			most, n int
			done    bool
		}{
			{math.MinInt, 0, false}, {-1, 0, false}, {0, 0, false}, {1, 1, false}, {26, 26, false}, {27, 27, true}, {28, 27, true},
			{99999, 27, true}, {100000, 27, true}, {100001, 27, true}, {math.MaxInt, 27, true},
		} {
			words := town(t, format) // five inodes have been looked at
			p := pmem.Of(words)
			f, _ := ran(t, p, nil)
			is := asked(t, f)
			wantFinish(t, "half turned", f, x.most, x.n, x.done)
			wantSound(t, p, f)
			is.cursor = 5 + x.n
			wantTree(t, f, is)
			if x.n == 0 && (p.Deeds() != 0 || !slices.Equal(f.Sheet().Words(), words)) {
				t.Errorf("no step is %d deeds", p.Deeds())
			}
			if x.done {
				wantFormats(t, f, format)
				wantFinish(t, "done already", f, x.most, 1, true)
				wantFinish(t, "done already", f, 0, 0, false)
				wantFinish(t, "done already", f, -5, 0, false)
			}
		}
	}
}

// wantFormats asks that all inodes are of a format.
func wantFormats(t *testing.T, f *vfs.FS, format int) {
	t.Helper()
	if l := formatsOf(t, f); slices.Max(l) != format || slices.Min(l) != format {
		t.Errorf("the formats are %v, want just %d", l, format)
	}
}

// P13.1: the whole table takes as many steps as there are inodes.
func TestFinishAll(t *testing.T) {
	for _, format := range formats {
		for _, most := range []int{0, 31, 32, 33, 100000} {
			p := formatted(t, format)
			f, _ := ran(t, p, plain(mkdir("d"), mk("d/a"), aim(3-format)))
			wantFinish(t, "the whole table", f, most, min(most, 32), most > 31)
			wantFinish(t, "the rest", f, 32, max(32-most, 1), true)
			wantFormats(t, f, 3-format)
		}
	}
}

// P13.1: a step that isn't OK is the last one: one that lacks blocks, and goes on where there is room.
func TestFinishLacks(t *testing.T) {
	p := formatted(t, api.Old)
	l := plain(mk("a"), mk("b"), mkdir("full"))
	for _, name := range manyNames(24) {
		l = append(l, plain(mk("full/"+name))...)
	}
	ran(t, p, append(l, plain(aim(api.New), step())...))
	f, results := ran(t, p, writes("full", manyNames(24)))
	if last := results[len(results)-1]; last.E != api.ErrSpace {
		t.Fatalf("blocks are free: %v", last)
	}
	wantFinish(t, "without room", f, 100, 3, false) // the files a and b, and the directory, which lacks some
	words, deeds := f.Sheet().Words(), p.Deeds()
	wantFinish(t, "again", f, 100, 1, false)
	wantFinish(t, "again", f, 1, 1, false)
	wantFinish(t, "again", f, 0, 0, false)
	wantErrors(t, []vfs.Result{f.Do(step())}, api.ErrSpace)
	if !slices.Equal(f.Sheet().Words(), words) || p.Deeds() != deeds {
		t.Error("a step that lacks blocks alters something")
	}
	if r := f.Do(size("full/na", 0)); r.E != api.OK {
		t.Fatal(r)
	}
	wantFinish(t, "with room", f, 100, 29, true)
	wantFormats(t, f, api.New)
	wantSound(t, p, f)
}

// P13.1: where the power goes there is one step more, and it isn't done; whoever comes behind mounts anew.
func TestFinishWithoutPower(t *testing.T) {
	wantFinish(t, "not mounted", &vfs.FS{}, 7, 1, false)
	words := town(t, api.New)
	whole := pmem.Of(words)
	f, _ := ran(t, whole, nil)
	wantFinish(t, "with power", f, 100, 27, true)
	was := 1
	for n := range whole.Deeds() {
		p := pmem.Of(words)
		f, _ := ran(t, p, nil)
		p.Fuse(n)
		m, done := script.Finish(f, 100)
		if m < was || m > was+1 || done {
			t.Errorf("with the power for %d deeds there were %d, %v", n, m, done)
		}
		was = m
		wantFinish(t, "without power", f, 100, 1, false)
		p.Crash([]uint8{uint8(n)})
		f, _ = ran(t, p, nil)
		if c := int(f.Sheet().Get(api.CursorAt)); c != 5+m && c != 4+m {
			t.Errorf("with the power for %d deeds the cursor is %d behind %d steps", n, c, m)
		}
	}
	if was != 27 {
		t.Errorf("with the power for all deeds but one there were %d", was)
	}
}
