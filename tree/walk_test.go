package tree_test

import (
	"slices"
	"strings"
	"testing"

	"imago/api"
	"imago/tree"
	"imago/tx"
)

// P9.1: paths of good names through each kind of an inode, and what Walk and Parent tell of each.
func TestPaths(t *testing.T) {
	s := grove(t)
	for _, c := range []struct {
		path    string
		walk    int
		walkE   api.Errno
		parent  int
		parentE api.Errno
	}{
		{"", 0, api.OK, 0, api.ErrArg},
		{"a", 1, api.OK, 0, api.OK},
		{"e", 5, api.OK, 0, api.OK},
		{"aaaaaaa", 13, api.OK, 0, api.OK},
		{"a a", 6, api.OK, 1, api.OK},
		{"a a a", 7, api.OK, 6, api.OK},
		{"a a a a", 31, api.OK, 7, api.OK},
		{"a a a a a", 1, api.OK, 31, api.OK}, // a ring
		{"a a a a a a a a b", 2, api.OK, 31, api.OK},
		{"z", 0, api.OK, 0, api.OK},
		{"z z z a z z e", 5, api.OK, 0, api.OK},
		{"a a z z z z b", 2, api.OK, 6, api.OK},
		// The last one is a file, free, or can't be got: it isn't got.
		{"b", 2, api.OK, 0, api.OK},
		{"c", 3, api.OK, 0, api.OK},
		{"d", 4, api.OK, 0, api.OK},
		{"a b", 9, api.OK, 1, api.OK},
		{"a c", 11, api.OK, 1, api.OK},
		{"a d", 12, api.OK, 1, api.OK},
		// The last name isn't there.
		{"x", 0, api.ErrNoEnt, 0, api.OK},
		{"A", 0, api.ErrNoEnt, 0, api.OK},
		{"aa", 0, api.ErrNoEnt, 0, api.OK},
		{"aaaaaa", 0, api.ErrNoEnt, 0, api.OK},
		{"!", 0, api.ErrNoEnt, 0, api.OK},
		{"~", 0, api.ErrNoEnt, 0, api.OK},
		{"e x", 0, api.ErrNoEnt, 5, api.OK}, // of no entries
		{"aaaaaaa x", 0, api.ErrNoEnt, 13, api.OK},
		{"a a a a x", 0, api.ErrNoEnt, 31, api.OK},
		// One ahead of the last isn't there.
		{"x a", 0, api.ErrNoEnt, 0, api.ErrNoEnt},
		{"a x a", 0, api.ErrNoEnt, 0, api.ErrNoEnt},
		{"x b x", 0, api.ErrNoEnt, 0, api.ErrNoEnt},
		// Through a file.
		{"b a", 0, api.ErrNotDir, 0, api.ErrNotDir},
		{"a b a", 0, api.ErrNotDir, 0, api.ErrNotDir},
		{"b a x", 0, api.ErrNotDir, 0, api.ErrNotDir},
		{"a a b a a", 0, api.ErrNotDir, 0, api.ErrNotDir},
		// Through one that is free.
		{"c a", 0, api.ErrNoEnt, 0, api.ErrNoEnt},
		{"a c a", 0, api.ErrNoEnt, 0, api.ErrNoEnt},
		{"a a c a", 0, api.ErrNoEnt, 0, api.ErrNoEnt},
		// Through one that can't be got, be entries there or not.
		{"d a", 0, api.ErrCorrupt, 0, api.ErrCorrupt},
		{"a d a", 0, api.ErrCorrupt, 0, api.ErrCorrupt},
		{"a d a a", 0, api.ErrCorrupt, 0, api.ErrCorrupt},
		{"a a d x", 0, api.ErrCorrupt, 0, api.ErrCorrupt},
	} {
		wantWalk(t, "grove", s, names(c.path), c.walk, c.walkE)
		wantParent(t, "grove", s, names(c.path), c.parent, c.parentE)
	}
}

// P9.1: a name that is none is ErrArg wherever it stands, be it behind one that isn't there, or what can't be gone through.
func TestNoNamesInPaths(t *testing.T) {
	s := grove(t)
	for _, none := range noNames {
		for _, path := range []string{"", "a", "a a", "a a a", "x", "x a", "b", "b a", "c", "c a", "d", "d a", "a d a b"} {
			good := names(path)
			for at := range len(good) + 1 {
				bad := slices.Insert(slices.Clone(good), at, none)
				wantWalk(t, "no name", s, bad, 0, api.ErrArg)
				wantParent(t, "no name", s, bad, 0, api.ErrArg)
			}
		}
		wantWalk(t, "two", s, []string{none, "a", none}, 0, api.ErrArg)
		wantParent(t, "two", s, []string{none, "a", none}, 0, api.ErrArg)
	}
}

// P9.1: the root is the inode 0, whatever stands there; but names are looked for in a directory alone.
func TestRoot(t *testing.T) {
	for _, c := range []struct {
		what string
		bend func(s *tx.Sheet)
		want api.Errno
	}{
		{"free", func(s *tx.Sheet) { free(s, 0) }, api.ErrNoEnt},
		{"corrupt", func(s *tx.Sheet) { spoil(s, 0) }, api.ErrCorrupt},
		{"an old file", func(s *tx.Sheet) { put(t, s, 0, file(api.Old)) }, api.ErrNotDir},
		{"a new file", func(s *tx.Sheet) { put(t, s, 0, file(api.New)) }, api.ErrNotDir},
	} {
		s := grove(t)
		c.bend(s)
		for _, path := range [][]string{nil, {}} {
			wantWalk(t, c.what, s, path, 0, api.OK)
			wantParent(t, c.what, s, path, 0, api.ErrArg)
		}
		for _, path := range []string{"a", "x", "a a", "z b"} {
			wantWalk(t, c.what, s, names(path), 0, c.want)
			wantParent(t, c.what, s, names(path), 0, c.want)
		}
		wantWalk(t, c.what, s, []string{"a", "/"}, 0, api.ErrArg)
		wantParent(t, c.what, s, []string{"a", "/"}, 0, api.ErrArg)
	}
	wantWalk(t, "all noughts", tx.New(nil), nil, 0, api.OK)
	wantWalk(t, "all noughts", tx.New(nil), names("a"), 0, api.ErrNoEnt)
}

// P9.1: whatever it is by which a directory on the way can't be got, it is ErrCorrupt, and its number is told where it is the last.
func TestSpoilt(t *testing.T) {
	for _, format := range formats {
		for _, c := range []struct {
			word int
			w    uint64
		}{
			{0, 0}, {0, 0x10200}, {0, 0x10203}, {0, 0x10300 + uint64(format)}, {0, 1<<32 + 0x10200 + uint64(format)},
			{1, 0}, {1, 3}, {1, 5}, {1, 25}, {1, 1<<64 - 1}, {2, 255}, {2, 256}, {2, 1 << 63}, {7, 1}, {7, 256},
		} {
			s := grove(t)
			put(t, s, 1, dir(format, "a2 b3 c4 d5"))
			s.Put(tx.Inode(1)+c.word, c.w)
			wantWalk(t, "spoilt", s, names("a"), 1, api.OK)
			wantParent(t, "spoilt", s, names("a"), 0, api.OK)
			for _, path := range []string{"a a", "a x", "a a a"} {
				wantWalk(t, "spoilt", s, names(path), 0, api.ErrCorrupt)
				wantParent(t, "spoilt", s, names(path), 0, api.ErrCorrupt)
			}
			wantAllBelow(t, "spoilt", s, 1, 1)
			wantBelow(t, "spoilt", s, 0, 1, true)
		}
	}
}

// P9.1: an empty root has no names, and may have each.
func TestEmptyRoot(t *testing.T) {
	for _, format := range formats {
		s := tx.New(nil)
		put(t, s, 0, dir(format, ""))
		for _, name := range []string{"a", "!", "~", "...", "abcdefg", "!!!!!!!", "~~~~~~~"} {
			wantWalk(t, "empty", s, []string{name}, 0, api.ErrNoEnt)
			wantParent(t, "empty", s, []string{name}, 0, api.OK)
			wantWalk(t, "empty", s, []string{name, name}, 0, api.ErrNoEnt)
			wantParent(t, "empty", s, []string{name, name}, 0, api.ErrNoEnt)
		}
	}
}

// P9.1: each name of directories of all lengths is come to, in both formats.
func TestWalkEachEntry(t *testing.T) {
	for _, format := range formats {
		for count := range api.MaxEntries + 1 {
			s := tx.New(nil)
			put(t, s, 0, dir(api.New, "r9"))
			put(t, s, 9, dirOf(format, many(count)...))
			for k, name := range many(count) {
				wantWalk(t, "each", s, []string{"r", name}, k, api.OK)
				wantParent(t, "each", s, []string{"r", name}, 9, api.OK)
				wantWalk(t, "none", s, []string{"r", name + "a"}, 0, api.ErrNoEnt)
			}
			wantWalk(t, "behind all", s, names("r z"), 0, api.ErrNoEnt)
			wantWalk(t, "ahead of all", s, names("r a"), 0, api.ErrNoEnt)
		}
	}
}

// P9.1: paths of each length through a row of directories, which is a ring then.
func TestLongPaths(t *testing.T) {
	s := tx.New(nil)
	for i := range api.Inodes {
		n := dir(formats[i%2], "n0")
		n.Entries[0].Ino = (i + 1) % api.Inodes
		put(t, s, i, n)
	}
	path := slices.Repeat([]string{"n"}, 50000)
	for count := range 100 {
		wantWalk(t, "a row", s, path[:count], count%api.Inodes, api.OK)
		wantParent(t, "a row", s, path[:count+1], count%api.Inodes, api.OK)
	}
	wantWalk(t, "a long row", s, path, len(path)%api.Inodes, api.OK)
	wantParent(t, "a long row", s, path, (len(path)-1)%api.Inodes, api.OK)
	path[len(path)-1] = "."
	wantWalk(t, "a long row", s, path, 0, api.ErrArg)
	free(s, 17)
	wantWalk(t, "up to the gap", s, path[:17], 17, api.OK)
	wantParent(t, "up to the gap", s, path[:17], 16, api.OK)
	wantWalk(t, "beyond the gap", s, path[:18], 0, api.ErrNoEnt)
	wantParent(t, "beyond the gap", s, path[:18], 0, api.ErrNoEnt)
}

// P9.1: what is put on the sheet is walked, and what is undone isn't.
func TestWalkSheet(t *testing.T) {
	s := tx.New(grove(t).Words())
	mark := s.Mark()
	put(t, s, 5, dir(api.Old, "q30"))
	wantWalk(t, "put", s, names("e q"), 30, api.OK)
	s.Back(mark)
	wantWalk(t, "undone", s, names("e q"), 0, api.ErrNoEnt)
}

// R5: what is asked leaves the sheet and the path, its spare room too.
func TestWalkLeaves(t *testing.T) {
	s := grove(t)
	room := names("a a a a x . /")
	wantUntouched(t, s, func() {
		for count := range room {
			tree.Walk(s, room[:count])
			tree.Parent(s, room[:count])
		}
		for i := range api.Inodes {
			tree.Below(s, i, 30)
		}
	})
	if got := strings.Join(room, " "); got != "a a a a x . /" {
		t.Errorf("the path is %q", got)
	}
}

// R1: whatever words there are, walks end.
func TestAnyWords(t *testing.T) {
	for _, w := range []uint64{0, 1, 2, 3, 0x101, 0x102, 0x201, 0x202, 0x10201, 0x10202, 0x0100000000000061, 1 << 63, 1<<64 - 1} {
		s := tx.New(slices.Repeat([]uint64{w}, api.Words))
		want := api.ErrCorrupt
		if w == 0 {
			want = api.ErrNoEnt
		}
		wantWalk(t, "any words", s, nil, 0, api.OK)
		wantWalk(t, "any words", s, names("a a"), 0, want)
		wantParent(t, "any words", s, names("a a"), 0, want)
		wantBelow(t, "any words", s, 0, 0, true)
		wantBelow(t, "any words", s, 0, 1, false)
	}
}
