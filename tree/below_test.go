package tree_test

import (
	"math"
	"slices"
	"testing"

	"imago/api"
	"imago/palloc"
	"imago/tx"
)

// wantAllBelow asks of each inode, and of numbers that are none's, whether it is below.
func wantAllBelow(t *testing.T, what string, s *tx.Sheet, dir int, want ...int) {
	t.Helper()
	for i := range api.Inodes {
		wantBelow(t, what, s, dir, i, slices.Contains(want, i))
	}
	for _, i := range noInodes {
		wantBelow(t, what, s, dir, i, i == dir)
	}
}

// P9.2: what is reached from each inode; what is free, a file, or can't be got is reached, but nothing through it.
func TestBelow(t *testing.T) {
	s := grove(t)
	ring := []int{0, 1, 2, 3, 4, 5, 6, 7, 9, 11, 12, 13, 31}
	for _, i := range []int{0, 1, 6, 7, 31} {
		wantAllBelow(t, "grove", s, i, ring...)
	}
	wantAllBelow(t, "grove", s, 14, 14, 15)
	for _, i := range []int{2, 3, 4, 5, 8, 9, 10, 11, 12, 13, 15, 30} {
		wantAllBelow(t, "grove", s, i, i)
	}
}

// P9.2: each is below itself, whatever it is, also where there is none.
func TestBelowItself(t *testing.T) {
	for _, s := range []*tx.Sheet{tx.New(nil), grove(t), tx.New(slices.Repeat([]uint64{math.MaxUint64}, api.Words))} {
		for i := range api.Inodes {
			wantBelow(t, "itself", s, i, i, true)
		}
		for _, i := range noInodes {
			wantAllBelow(t, "no inode", s, i)
		}
	}
}

// P9.2: below goes down alone: not to the directory above, nor to those beside.
func TestBelowGoesDown(t *testing.T) {
	for _, format := range formats {
		s := tx.New(nil)
		put(t, s, 0, dir(format, "a1 b2 c3"))
		put(t, s, 1, dir(format, "a4 b5"))
		put(t, s, 2, dir(format, "a6"))
		put(t, s, 3, file(format))
		put(t, s, 4, dir(format, ""))
		put(t, s, 5, dir(format, "a7"))
		put(t, s, 6, file(format))
		put(t, s, 7, file(format))
		put(t, s, 8, dir(format, "a0"))
		wantAllBelow(t, "all but the last", s, 0, 0, 1, 2, 3, 4, 5, 6, 7)
		wantAllBelow(t, "two", s, 1, 1, 4, 5, 7)
		wantAllBelow(t, "one", s, 2, 2, 6)
		wantAllBelow(t, "a file", s, 3, 3)
		wantAllBelow(t, "no entries", s, 4, 4)
		wantAllBelow(t, "free", s, 9, 9)
		wantAllBelow(t, "above", s, 8, 0, 1, 2, 3, 4, 5, 6, 7, 8)
	}
}

// P9.2: a row of all inodes, and a ring of them, of one, and of two that are reached by several ways.
func TestBelowInRows(t *testing.T) {
	s := tx.New(nil)
	var row []int
	for i := range api.Inodes {
		n := dir(formats[i%2], "n0")
		n.Entries[0].Ino = min(i+1, 31)
		put(t, s, i, n)
		row = append(row, i)
	}
	for i := range row {
		wantAllBelow(t, "a row", s, i, row[i:]...)
	}
	put(t, s, 31, dir(api.New, "n0"))
	for i := range row {
		wantAllBelow(t, "a ring", s, i, row...)
	}
	free(s, 16)
	wantAllBelow(t, "a gap", s, 0, row[:17]...)
	wantAllBelow(t, "a gap", s, 17, row...)
	put(t, s, 16, dir(api.Old, "a16 b16 c15 d16"))
	wantAllBelow(t, "two", s, 15, 15, 16)
	wantAllBelow(t, "two", s, 16, 15, 16)
}

// P9.2: all inodes in one another's reach, by the entries of one name or of many.
func TestBelowAll(t *testing.T) {
	s := tx.New(nil)
	wide := dirOf(api.Old, many(api.MaxEntries)...)
	put(t, s, 0, wide)
	wantAllBelow(t, "one directory of all entries", s, 0, 0, 1, 2, 3, 4, 5, 6, 7, 8, 9, 10, 11, 12, 13, 14, 15, 16, 17, 18, 19, 20, 21, 22, 23)
	for k := range wide.Entries {
		wide.Entries[k].Ino = 31 - k
	}
	wide.Format = api.New
	put(t, s, 23, wide)
	for i := range api.Inodes {
		wantBelow(t, "two directories of all entries", s, 0, i, true)
		wantBelow(t, "two directories of all entries", s, 23, i, i >= 8)
	}
}

// P9.2: a file's bytes are no entries, though they read like them.
func TestBelowAFile(t *testing.T) {
	for _, format := range formats {
		s := tx.New(nil)
		put(t, s, 1, dir(api.Old, "a2 b3"))
		n := file(format)
		n.Size, n.Blocks[0] = 64, int(s.Get(tx.Inode(1)+2))
		put(t, s, 0, n)
		if !palloc.Used(s, n.Blocks[0]) {
			t.Fatal("there is no block of entries")
		}
		wantAllBelow(t, "a file", s, 0, 0)
		wantWalk(t, "a file", s, names("a"), 0, api.ErrNotDir)
	}
}
