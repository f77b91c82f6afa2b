package check_test

import (
	"math"
	"slices"
	"strconv"
	"testing"

	"imago/api"
	"imago/inode"
	"imago/palloc"
	"imago/tx"
)

// sounds are sound sheets of all shapes in such formats.
func sounds(t *testing.T, format func(int) int) map[string]*tx.Sheet {
	t.Helper()
	l := map[string]*tx.Sheet{"the grove": grove(t, format), "all blocks": allBlocks(t, format)}
	for what, inodes := range map[string]map[int]api.Inode{
		"the root alone":             {0: dir("")},
		"an empty directory":         {0: dir("a31"), 31: dir("")},
		"an empty file":              {0: dir("a31"), 31: file(1, 0)},
		"two names in one directory": {0: dir("a1 b1"), 1: file(2, 5, 200)},
		"names at two depths":        {0: dir("a1 b2"), 1: dir("c2"), 2: file(2, 64, 200)},
		"a way up and down":          {0: dir("a31"), 31: dir("a1"), 1: dir("a30"), 30: dir("a2"), 2: dir("")},
		"a row of all":               row(),
		"many names":                 manyNames(),
	} {
		l[what] = ground()
		plant(t, l[what], format, inodes)
	}
	return l
}

// row are all inodes, each the directory of the next one, the last one a file.
func row() map[int]api.Inode {
	l := map[int]api.Inode{31: file(1, 9, 255)}
	for i := range 31 {
		l[i] = dir("n" + strconv.Itoa(i+1))
	}
	return l
}

// manyNames are 22 directories, each with 24 names of one file.
func manyNames() map[int]api.Inode {
	const dirs = 22
	top, names := "", ""
	for k := range api.MaxEntries {
		names += " " + string(rune('a'+k)) + "31"
	}
	l := map[int]api.Inode{31: file(dirs*api.MaxEntries, 70, 0, 250)}
	for i := 1; i <= dirs; i++ {
		l[i] = dir(names)
		top += " " + string(rune('a'+i)) + strconv.Itoa(i)
	}
	l[0] = dir(top)
	return l
}

// allBlocks is a sheet on which each block is used: 17 files of all blocks, and three that take what is left.
func allBlocks(t *testing.T, format func(int) int) *tx.Sheet {
	t.Helper()
	l := map[int]api.Inode{}
	top := ""
	for i := 1; i <= 20; i++ {
		n := file(1, 0)
		if i <= 17 {
			n.Size = 832
			for k := range n.Blocks {
				n.Blocks[k] = 34 + 13*(i-1) + k
			}
		}
		l[i] = n
		top += " " + string(rune('a'+i)) + strconv.Itoa(i)
	}
	l[0] = dir(top)
	s := ground()
	plant(t, s, format, l)
	for i := 18; i <= 20; i++ {
		fillUp(t, s, i)
	}
	if left := palloc.Free(s); left != 0 {
		t.Fatalf("%d blocks are free", left)
	}
	return s
}

// fillUp lets a file grow by whole blocks while there is room.
func fillUp(t *testing.T, s *tx.Sheet, i int) {
	t.Helper()
	n := get(t, s, i)
	for k := range n.Blocks {
		l, e := palloc.Take(s, 1)
		if e != api.OK {
			return
		}
		n.Blocks[k], n.Size = l[0], 64*(k+1)
		if inode.Put(s, i, n) != api.OK { // no room for a list
			palloc.Give(s, l)
			return
		}
	}
}

// P10.1: sheets of each shape in each format are sound, and asking leaves all words.
func TestSound(t *testing.T) {
	for mix, format := range mixes {
		for what, s := range sounds(t, format) {
			words := s.Words()
			wantWrong(t, what+", "+mix, s)
			if !slices.Equal(s.Words(), words) {
				t.Errorf("%s, %s: asking has altered words", what, mix)
			}
		}
	}
}

// P10.1: what no point asks for may be anything: the journal, blocks that aren't used, a file's bytes.
func TestWhatNobodyAsks(t *testing.T) {
	for mix, format := range mixes {
		s := grove(t, format)
		for _, w := range []uint64{0, 1, api.Magic, math.MaxUint64} {
			for at := range api.Words {
				if at >= api.LogAt && at < api.BitsAt || at >= api.BlocksAt && !palloc.Used(s, (at-api.BlocksAt)/8) {
					s.Put(at, w)
				}
			}
			for _, b := range []int{60, 70, 79, 80, 82, 83, 99, 100, 124, 201} { // whole ones
				for k := range 8 {
					s.Put(tx.Block(b)+k, w)
				}
			}
			wantWrong(t, mix, s)
		}
	}
}

// P10.2: each single bit of the bits turned about: not sound, and the point 6 is told.
func TestOneBit(t *testing.T) {
	for mix, format := range mixes {
		for what, s := range sounds(t, format) {
			for b := range 256 {
				at := 816 + b/64
				was := s.Get(at)
				s.Put(at, was^1<<(b%64))
				wantTold(t, what+", "+mix, s, 6)
				s.Put(at, was)
			}
			wantTold(t, what+", "+mix, s, 0)
		}
	}
}

// P10.1: behind a turn of each inode to the other format, and back, a sheet is sound.
func TestSoundTurned(t *testing.T) {
	s := grove(t, mixes["old"])
	for _, format := range []int{api.New, api.Old} {
		for i := range groveEntries() {
			if inode.Free(s, i) {
				continue
			}
			alter(t, s, i, func(n *api.Inode) { n.Format = format })
			wantWrong(t, "turned", s)
		}
	}
}
