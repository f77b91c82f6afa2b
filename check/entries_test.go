package check_test

import (
	"math"
	"slices"
	"strconv"
	"testing"

	"imago/api"
	"imago/check"
	"imago/inode"
	"imago/palloc"
	"imago/tx"
)

// P10.1: Entries of a sound sheet: of files of several names, of directories, of the root, of free inodes.
func TestEntries(t *testing.T) {
	for mix, format := range mixes {
		s := grove(t, format)
		words := s.Words()
		wantEntries(t, mix, s, groveEntries())
		if !slices.Equal(s.Words(), words) {
			t.Errorf("%s: asking has altered words", mix)
		}
		s = ground()
		plant(t, s, format, manyNames())
		want := [32]int{31: 22 * 24}
		for i := 1; i <= 22; i++ {
			want[i] = 1
		}
		wantEntries(t, "many names, "+mix, s, want)
		s = ground()
		plant(t, s, format, row())
		want = [32]int{}
		for i := 1; i < 32; i++ {
			want[i] = 1
		}
		wantEntries(t, "a row, "+mix, s, want)
		s = ground()
		plant(t, s, format, map[int]api.Inode{0: dir("")})
		wantEntries(t, "the root alone, "+mix, s, [32]int{})
	}
}

// P10.1: Entries of sheets that aren't sound: of each fault those that it adds.
func TestEntriesNotSound(t *testing.T) {
	for _, x := range []struct {
		what string
		l    map[int]api.Inode
		more [32]int
	}{
		{"free inodes", map[int]api.Inode{8: dir("a20 b20 c21 d30")}, [32]int{20: 2, 21: 1, 30: 1}},
		{"the root", map[int]api.Inode{8: dir("a0 b0")}, [32]int{0: 2}},
		{"itself", map[int]api.Inode{8: dir("a8")}, [32]int{8: 1}},
		{"the way back", map[int]api.Inode{15: dir("a11 b1 c0")}, [32]int{0: 1, 1: 1, 11: 1}},
		{"more names of a file", map[int]api.Inode{8: dir("a2 b2 c16")}, [32]int{2: 2, 16: 1}},
		{"directories to which nothing leads", map[int]api.Inode{20: dir("a2 b21"), 21: dir("a8 b20 c30")}, [32]int{2: 1, 8: 1, 20: 1, 21: 1, 30: 1}},
	} {
		for mix, format := range mixes {
			s := grove(t, format)
			plant(t, s, format, x.l)
			want := groveEntries()
			for i, k := range x.more {
				want[i] += k
			}
			wantEntries(t, x.what+", "+mix, s, want)
		}
	}
}

// P10.1: Entries asks for no other point: a sheet's words, the bits, the links may be any.
func TestEntriesOtherPoints(t *testing.T) {
	for mix, format := range mixes {
		s := grove(t, format)
		for at := range 824 {
			s.Put(at, math.MaxUint64)
		}
		wantEntries(t, "other words, "+mix, s, groveEntries())
		for i := range 32 {
			if !inode.Free(s, i) {
				s.Put(tx.Inode(i), s.Get(tx.Inode(i))^0x7_0000)
			}
		}
		wantEntries(t, "other links, "+mix, s, groveEntries())
	}
}

// P10.1: inodes that can't be got have entries that lead to them, but none of their own; free ones have none either.
func TestEntriesNotGot(t *testing.T) {
	for mix, format := range mixes {
		for i, less := range map[int][32]int{
			0:  {1: 1, 2: 2, 3: 1, 4: 1, 5: 1, 6: 1, 7: 1, 8: 1, 9: 1, 10: 1, 31: 1},
			1:  {2: 1, 11: 1, 12: 1},
			2:  {},
			8:  {},
			10: {13: 23, 14: 1},
			14: {16: 1},
			30: {},
		} {
			want := groveEntries()
			for j, k := range less {
				want[j] -= k
			}
			s := grove(t, format)
			s.Put(tx.Inode(i), s.Get(tx.Inode(i))|1<<40)
			wantEntries(t, "without "+strconv.Itoa(i)+", "+mix, s, want)
			free(s, i)
			wantEntries(t, "free "+strconv.Itoa(i)+", "+mix, s, want)
		}
	}
}

// P10.1: a file's bytes are no entries, though they read like them.
func TestEntriesAFile(t *testing.T) {
	for _, format := range formats {
		s := ground()
		plant(t, s, mixes["old"], map[int]api.Inode{0: dir("a1 b2"), 1: dir("c3 d4")})
		wantEntries(t, "directories", s, [32]int{1: 1, 2: 1, 3: 1, 4: 1})
		b := ownOf(t, s, 1)[0]
		n := file(1, 64, b)
		n.Format = format
		put(t, s, 1, n)
		palloc.Set(s, b, true)
		wantEntries(t, "a file", s, [32]int{1: 1, 2: 1})
	}
}

// P10.1: what is answered is new: altered, it alters nothing that is told later.
func TestEntriesAnew(t *testing.T) {
	s := grove(t, mixes["old"])
	got := check.Entries(s)
	got[1], got[20] = 7, 7
	wantEntries(t, "again", s, groveEntries())
	entry(0, "free", 20)(t, s)
	want := groveEntries()
	want[20] = 1
	wantEntries(t, "behind a put", s, want)
	if got[1] != 7 || got[20] != 7 {
		t.Error("what was answered has altered")
	}
}

// R1: whatever words there are, both calls end.
func TestAnyWords(t *testing.T) {
	for _, w := range append([]uint64{0, 1, 2, 3, 0x101, 0x102, 0x201, 0x202, 0x10101, 0x10102, 0x10201, 0x10202, api.Magic}, great...) {
		s := tx.New(slices.Repeat([]uint64{w}, api.Words))
		wantTold(t, strconv.FormatUint(w, 16)+" everywhere", s, 1)
		wantEntries(t, strconv.FormatUint(w, 16)+" everywhere", s, [32]int{})
		for at, x := range ground().Words()[:824] {
			s.Put(at, x)
		}
		want := 2
		if w == 0 {
			want = 3
		}
		wantTold(t, strconv.FormatUint(w, 16)+" in inodes and blocks", s, want)
		wantEntries(t, strconv.FormatUint(w, 16)+" in inodes and blocks", s, [32]int{})
	}
}
