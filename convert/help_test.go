package convert_test

import (
	"math"
	"slices"
	"strconv"
	"testing"

	"imago/api"
	"imago/check"
	"imago/convert"
	"imago/inode"
	"imago/palloc"
	"imago/tree"
	"imago/tx"
)

var formats = []int{api.Old, api.New}

// noFormats are numbers that are no format's; some would be one's, if bits of them were lost.
var noFormats = []int{math.MinInt, math.MinInt + 1, -1 << 32, -1<<32 + 1, -2, -1, 0, 3, 4, 255, 256, 257, 258, 1<<32 + 1, 1<<32 + 2, math.MaxInt}

// mixes are which format each inode has at first: all one, all the other, in turns.
var mixes = map[string]func(i int) int{
	"old":      func(int) int { return api.Old },
	"new":      func(int) int { return api.New },
	"in turns": func(i int) int { return formats[i%2] },
	"in other": func(i int) int { return formats[(i+1)%2] },
}

// ground is a sheet of the root alone. The journal, and blocks that are nobody's, have words that aren't 0.
func ground(t *testing.T, format, target, cursor int) *tx.Sheet {
	t.Helper()
	words := make([]uint64, api.Words)
	for at := range words {
		if at >= 8 && at < 816 || at >= 1080 {
			words[at] = uint64(at)*0x9e3779b97f4a7c15 | 1
		}
	}
	words[0], words[1], words[2] = 0x696d61676f303100, uint64(target), uint64(cursor)
	s := tx.New(words)
	put(t, s, 0, api.Inode{Format: format, Kind: api.Dir, Links: 1})
	return s
}

// file is a file of one link, and of such blocks from its first one on.
func file(size int, blocks ...int) api.Inode {
	n := api.Inode{Kind: api.File, Links: 1, Size: size}
	copy(n.Blocks[:], blocks)
	return n
}

// empty is a directory of no entries.
func empty() api.Inode {
	return api.Inode{Kind: api.Dir, Links: 1}
}

func put(t *testing.T, s *tx.Sheet, i int, n api.Inode) {
	t.Helper()
	if e := inode.Put(s, i, n); e != api.OK {
		t.Fatalf("put of %v at %d: %v", n, i, e)
	}
}

func get(t *testing.T, s *tx.Sheet, i int) api.Inode {
	t.Helper()
	n, _, e := inode.Get(s, i)
	if e != api.OK {
		t.Fatalf("get of %d: %v", i, e)
	}
	return n
}

// grow puts an inode, and its name in a directory. A file's bytes are none of them 0 up to its size, and 0 behind.
func grow(t *testing.T, s *tx.Sheet, dir, i, format int, n api.Inode) {
	t.Helper()
	for k, b := range n.Blocks {
		if b == 0 {
			continue
		}
		palloc.Set(s, b, true)
		for at := range 8 {
			s.Put(tx.Block(b)+at, uint64(math.MaxUint64)>>(64-8*min(8, max(0, n.Size-64*k-8*at))))
		}
	}
	n.Format = format
	put(t, s, i, n)
	name(t, s, dir, i)
}

// name gives an inode one name more than it has links for, in a directory.
func name(t *testing.T, s *tx.Sheet, dir, i int) {
	t.Helper()
	n := get(t, s, dir)
	put(t, s, dir, tree.With(n, api.Entry{Name: "n" + strconv.Itoa(10*i+n.Size), Ino: i}))
}

// link gives a file a further name, and the link for it.
func link(t *testing.T, s *tx.Sheet, dir, i int) {
	t.Helper()
	n := get(t, s, i)
	n.Links++
	put(t, s, i, n)
	name(t, s, dir, i)
}

// grove is a sound sheet with each kind of a thing:
//
//	0 the root             6 its last block a hole
//	1 a directory          7 a file of nothing
//	2 a file, three names  8 a directory of no entries
//	3 thirteen blocks,     9 a file of six blocks, the last one of a byte
//	  none beside another  10 a directory of all entries there may be
//	4 a file with holes    11 a file of many names
//	5 two whole blocks     31 a file of all blocks, but the last byte
func grove(t *testing.T, format func(i int) int, target, cursor int) *tx.Sheet {
	t.Helper()
	s := ground(t, format(0), target, cursor)
	for _, b := range []int{60, 61, 70, 71, 72, 73, 79, 80, 82, 83, 99} {
		palloc.Set(s, b, true) // ahead of directories, so that these don't take them
	}
	for i, n := range []api.Inode{
		1: empty(), 2: file(100, 60, 61), 3: file(832, 100, 102, 104, 106, 108, 110, 112, 114, 116, 118, 120, 122, 124),
		4: file(800, 71, 0, 0, 72, 0, 70, 0, 0, 0, 0, 0, 0, 73), 5: file(128, 80, 79), 6: file(130, 82, 83), 7: file(0),
		8: empty(), 9: file(321, 90, 91, 92, 93, 94, 95), 10: empty(), 11: file(64, 99),
		31: file(831, 201, 202, 203, 204, 205, 206, 207, 208, 209, 210, 211, 212, 213),
	} {
		if n.Kind != 0 {
			grow(t, s, min(i/3%2, i), i, format(i), n)
		}
	}
	link(t, s, 0, 2)
	link(t, s, 10, 2)
	for range 23 {
		link(t, s, 10, 11)
	}
	wantSound(t, "the grove", s)
	return s
}

// wood is what a sheet tells of its inodes without their formats, and the words of files' blocks.
func wood(s *tx.Sheet) (l [32]api.Inode, words [32][]uint64) {
	for i := range 32 {
		l[i], _, _ = inode.Get(s, i)
		l[i].Format = 0
		for _, b := range l[i].Blocks {
			for at := range 8 {
				words[i] = append(words[i], s.Get(tx.Block(b)+at))
			}
		}
	}
	return l, words
}

// wantSameWood asks that a sheet tells of its inodes what those words told.
func wantSameWood(t *testing.T, what string, s *tx.Sheet, was []uint64) {
	t.Helper()
	l, words := wood(tx.New(was))
	gotL, gotWords := wood(s)
	for i := range 32 {
		if !same(gotL[i], l[i]) {
			t.Errorf("%s: the inode %d is %v, it was %v", what, i, gotL[i], l[i])
		}
		if l[i].Kind == api.File && !slices.Equal(gotWords[i], words[i]) {
			t.Errorf("%s: the file %d has other words", what, i)
		}
	}
}

func same(a, b api.Inode) bool {
	return a.Format == b.Format && a.Kind == b.Kind && a.Links == b.Links && a.Size == b.Size &&
		a.Blocks == b.Blocks && slices.Equal(a.Entries, b.Entries)
}

// strays are the blocks that are used, though no inode has them.
func strays(s *tx.Sheet) []int {
	had := map[int]int{}
	for i := range 32 {
		for _, b := range inode.All(s, i) {
			had[b]++
		}
	}
	var l []int
	for b := range 256 {
		if had[b] == 0 && palloc.Used(s, b) {
			l = append(l, b)
		}
	}
	return l
}

// wantSound asks whether all is sound, but for blocks that are used, and no inode has.
func wantSound(t *testing.T, what string, s *tx.Sheet) {
	t.Helper()
	mark := s.Mark()
	palloc.Give(s, strays(s))
	if point, ok := check.Sound(s); !ok {
		t.Fatalf("%s: the point %d isn't so", what, point)
	}
	s.Back(mark)
}

// wantWords asks for all words of a sheet, and tells of the first one that is another.
func wantWords(t *testing.T, what string, s *tx.Sheet, want []uint64) {
	t.Helper()
	for at, w := range s.Words() {
		if w != want[at] {
			t.Errorf("%s: the word %d is %x, want %x", what, at, w, want[at])
			return
		}
	}
}

// wantUntouched asks that a deed leaves all words, and no put that would have to be undone.
func wantUntouched(t *testing.T, what string, s *tx.Sheet, deed func()) {
	t.Helper()
	mark, words := s.Mark(), s.Words()
	deed()
	if s.Mark() != mark {
		t.Errorf("%s: %d puts", what, s.Mark()-mark)
	}
	wantWords(t, what, s, words)
}

func wantAim(t *testing.T, what string, s *tx.Sheet, format int, want api.Errno) {
	t.Helper()
	if got := convert.Aim(s, format); got != want {
		t.Errorf("%s: aim at %d: %v, want %v", what, format, got, want)
	}
}

// wantHeads asks for the target, the cursor, and what is told of them; telling puts nothing.
func wantHeads(t *testing.T, what string, s *tx.Sheet, target, cursor int) {
	t.Helper()
	wantUntouched(t, what, s, func() {
		if got := convert.Target(s); got != target || s.Get(1) != uint64(target) {
			t.Errorf("%s: the target is %d, want %d", what, got, target)
		}
		if got := s.Get(2); got != uint64(cursor) {
			t.Errorf("%s: the cursor is %d, want %d", what, got, cursor)
		}
		if got := convert.Done(s); got != (cursor == 32) {
			t.Errorf("%s: done: %v, the cursor is %d", what, got, cursor)
		}
	})
}

func wantLeft(t *testing.T, what string, s *tx.Sheet, want int) {
	t.Helper()
	wantUntouched(t, what, s, func() {
		if got := convert.Left(s); got != want {
			t.Errorf("%s: %d are left, want %d", what, got, want)
		}
	})
}

// left counts the inodes whose tag says another format than the target.
func left(s *tx.Sheet) int {
	count := 0
	for i := range 32 {
		if tag := s.Get(824 + 8*i); tag != 0 && tag&0xff != s.Get(1) {
			count++
		}
	}
	return count
}

// behindStep are all words as a step should leave them, and what it should answer.
func behindStep(words []uint64) ([]uint64, api.Errno) {
	i := int(words[2])
	if i == 32 {
		return words, api.OK
	}
	s := tx.New(words)
	if n, _, e := inode.Get(s, i); e == api.OK && n.Format != int(words[1]) {
		n.Format = int(words[1])
		if inode.Put(s, i, n) != api.OK {
			return words, api.ErrSpace
		}
	}
	s.Put(2, uint64(i+1))
	return s.Words(), api.OK
}

// wantStep does a step, and asks for all that it should do; it answers what the step should.
func wantStep(t *testing.T, what string, s *tx.Sheet) api.Errno {
	t.Helper()
	was := s.Words()
	words, want := behindStep(was)
	mark := s.Mark()
	if got := convert.Step(s); got != want {
		t.Errorf("%s: a step: %v, want %v", what, got, want)
	}
	wantWords(t, what, s, words)
	if (want != api.OK || was[2] == 32) && s.Mark() != mark {
		t.Errorf("%s: %d puts of a step that does nothing", what, s.Mark()-mark)
	}
	wantLeft(t, what, s, left(s))
	wantHeads(t, what, s, int(words[1]), int(words[2]))
	return want
}
