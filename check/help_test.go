package check_test

import (
	"maps"
	"math"
	"slices"
	"strconv"
	"strings"
	"testing"

	"imago/api"
	"imago/check"
	"imago/inode"
	"imago/palloc"
	"imago/tx"
)

var formats = []int{api.Old, api.New}

// mixes are which format each inode has: all one, all the other, in turns.
var mixes = map[string]func(i int) int{
	"old":      func(int) int { return api.Old },
	"new":      func(int) int { return api.New },
	"in turns": func(i int) int { return formats[i%2] },
	"in other": func(i int) int { return formats[(i+1)%2] },
}

// ground is a sheet without inodes. What no point asks for, the journal and blocks that are nobody's, has words that aren't 0.
func ground() *tx.Sheet {
	words := make([]uint64, api.Words)
	for at := range words {
		if at >= 8 && at < 816 || at >= 1080 {
			words[at] = 0xa5a5a5a5<<32 | uint64(at)
		}
	}
	words[0], words[1], words[2] = 0x696d61676f303100, 1, 32
	return tx.New(words)
}

// dir is a directory of one link whose entries are written with blanks between them: "a1" for a name a of the inode 1.
func dir(entries string) api.Inode {
	n := api.Inode{Kind: api.Dir, Links: 1}
	for _, x := range strings.Fields(entries) {
		name := strings.TrimRight(x, "0123456789")
		ino, _ := strconv.Atoi(x[len(name):])
		n.Entries = append(n.Entries, api.Entry{Name: name, Ino: ino})
	}
	n.Size = len(n.Entries)
	return n
}

// file is a file of such blocks from its first one on.
func file(links, size int, blocks ...int) api.Inode {
	n := api.Inode{Kind: api.File, Links: links, Size: size}
	copy(n.Blocks[:], blocks)
	return n
}

// plant puts inodes in such formats; the blocks of files are used then, and have no byte that is 0 up to the size, and only such behind.
func plant(t *testing.T, s *tx.Sheet, format func(int) int, l map[int]api.Inode) {
	t.Helper()
	for _, n := range l { // all of them first, so that no inode takes one of these for itself
		for k, b := range n.Blocks {
			if b == 0 {
				continue
			}
			palloc.Set(s, b, true)
			for at := range 64 {
				setByte(s, b, at, 0)
				if 64*k+at < n.Size {
					setByte(s, b, at, 0xff)
				}
			}
		}
	}
	for _, i := range slices.Sorted(maps.Keys(l)) {
		n := l[i]
		n.Format = format(i)
		put(t, s, i, n)
	}
}

func put(t *testing.T, s *tx.Sheet, i int, n api.Inode) {
	t.Helper()
	if e := inode.Put(s, i, n); e != api.OK {
		t.Fatalf("put of %v at %d: %v", n, i, e)
	}
}

// alter puts an inode otherwise than it is.
func alter(t *testing.T, s *tx.Sheet, i int, how func(n *api.Inode)) {
	t.Helper()
	n := get(t, s, i)
	how(&n)
	put(t, s, i, n)
}

func get(t *testing.T, s *tx.Sheet, i int) api.Inode {
	t.Helper()
	n, _, e := inode.Get(s, i)
	if e != api.OK {
		t.Fatalf("get of %d: %v", i, e)
	}
	return n
}

// ownOf are the blocks that an inode's format takes.
func ownOf(t *testing.T, s *tx.Sheet, i int) []int {
	t.Helper()
	_, own, e := inode.Get(s, i)
	if e != api.OK || len(own) == 0 {
		t.Fatalf("own blocks of %d: %v, %v", i, own, e)
	}
	return own
}

// free lets an inode be free, and leaves its blocks as they are.
func free(s *tx.Sheet, i int) {
	for k := range 8 {
		s.Put(824+8*i+k, 0)
	}
}

// wordAt is where the word of a block's byte stands.
func wordAt(b, at int) int {
	return 1080 + 8*b + at/8
}

func setByte(s *tx.Sheet, b, at int, c byte) {
	shift := at % 8 * 8
	s.Put(wordAt(b, at), s.Get(wordAt(b, at))&^(0xff<<shift)|uint64(c)<<shift)
}

// grove is a sound sheet with each kind of a thing:
//
//	0 the root             8 a directory of no entries
//	1 a directory          9 a file of six blocks, the last one of a byte
//	2 a file, three names  10 a directory of all entries there may be
//	3 thirteen blocks,     11, 14, 15 directories
//	  none beside another  12 a file without blocks, one long hole
//	4 a file with holes    13 a file, 23 names
//	5 two whole blocks     16 a file of one byte
//	6 its last one a hole  31 a file of all blocks, but the last byte
//	7 a file of nothing    all others are free
func grove(t *testing.T, format func(int) int) *tx.Sheet {
	t.Helper()
	s := ground()
	wide := "dir14"
	for k := range 23 {
		wide += " f" + string(rune('a'+k)) + "13"
	}
	plant(t, s, format, map[int]api.Inode{
		0:  dir("a1 b2 c3 d4 e5 f6 g2 h7 i8 j9 z10 zz31"),
		1:  dir("a11 b2 c12"),
		2:  file(3, 100, 60, 61),
		3:  file(1, 832, 100, 102, 104, 106, 108, 110, 112, 114, 116, 118, 120, 122, 124),
		4:  file(1, 800, 71, 0, 0, 72, 0, 70, 0, 0, 0, 0, 0, 0, 73),
		5:  file(1, 128, 80, 79),
		6:  file(1, 130, 82, 83),
		7:  file(1, 0),
		8:  dir(""),
		9:  file(1, 321, 90, 91, 92, 93, 94, 95),
		10: dir(wide),
		11: dir("a15"),
		12: file(1, 700),
		13: file(23, 64, 99),
		14: dir("x16"),
		15: dir(""),
		16: file(1, 1, 255),
		31: file(1, 831, 201, 202, 203, 204, 205, 206, 207, 208, 209, 210, 211, 212, 213),
	})
	return s
}

// groveEntries are how many entries lead to each inode of the grove.
func groveEntries() [32]int {
	return [32]int{1: 1, 2: 3, 3: 1, 4: 1, 5: 1, 6: 1, 7: 1, 8: 1, 9: 1, 10: 1, 11: 1, 12: 1, 13: 23, 14: 1, 15: 1, 16: 1, 31: 1}
}

// wantTold asks for what is told, and that nothing is put.
func wantTold(t *testing.T, what string, s *tx.Sheet, want int) {
	t.Helper()
	mark := s.Mark()
	if got, ok := check.Sound(s); got != want || ok != (want == 0) {
		t.Errorf("%s: sound: %d, %v, want %d", what, got, ok, want)
	}
	if s.Mark() != mark {
		t.Errorf("%s: sound has put %d times", what, s.Mark()-mark)
	}
}

func wantEntries(t *testing.T, what string, s *tx.Sheet, want [32]int) {
	t.Helper()
	mark := s.Mark()
	if got := check.Entries(s); got != want {
		t.Errorf("%s: entries: %v, want %v", what, got, want)
	}
	if s.Mark() != mark {
		t.Errorf("%s: entries has put %d times", what, s.Mark()-mark)
	}
}

// wantWrong asks which points aren't so, each by itself, and that the first one is told.
func wantWrong(t *testing.T, what string, s *tx.Sheet, want ...int) {
	t.Helper()
	if got := wrongs(s); !slices.Equal(got, want) {
		t.Errorf("%s: the points %v aren't so, they should be %v", what, got, want)
	}
	wantTold(t, what, s, first(want))
}

// first is the first of some points; 0 of none.
func first(l []int) int {
	if len(l) == 0 {
		return 0
	}
	return l[0]
}

// seen is what is known of an inode, by what layer 8 tells of it.
type seen struct {
	e      api.Errno
	n      api.Inode
	blocks []int
}

// lead is an entry of one inode for another.
type lead struct {
	from, to int
}

// wrongs are the points that aren't so, each asked apart from the others.
func wrongs(s *tx.Sheet) []int {
	var inodes []seen
	var leads []lead
	for i := range 32 {
		n, own, e := inode.Get(s, i)
		x := seen{e: e, n: n, blocks: own}
		for _, b := range n.Blocks {
			if b > 0 {
				x.blocks = append(x.blocks, b)
			}
		}
		for _, y := range n.Entries {
			leads = append(leads, lead{i, y.Ino})
		}
		inodes = append(inodes, x)
	}
	words := s.Words()
	var l []int
	for k, so := range []bool{
		soWords(words), soGot(inodes), soLeads(inodes, leads), soLinks(inodes, leads),
		soReached(inodes, leads), soBlocks(words, inodes), soTails(words, inodes),
	} {
		if !so {
			l = append(l, k+1)
		}
	}
	return l
}

func soWords(words []uint64) bool {
	so := words[0] == 0x696d61676f303100 && (words[1] == 1 || words[1] == 2) && words[2] < 33
	for _, at := range []int{3, 4, 5, 6, 7, 820, 821, 822, 823} {
		so = so && words[at] == 0
	}
	return so
}

func soGot(inodes []seen) bool {
	return !slices.ContainsFunc(inodes, func(x seen) bool { return x.e == api.ErrCorrupt })
}

func soLeads(inodes []seen, leads []lead) bool {
	toFree := func(x lead) bool { return inodes[x.to].e == api.ErrNoEnt }
	return inodes[0].n.Kind == 2 && !slices.ContainsFunc(leads, toFree)
}

func soLinks(inodes []seen, leads []lead) bool {
	for i, x := range inodes {
		count := 0
		for _, y := range leads {
			if y.to == i {
				count++
			}
		}
		switch {
		case x.e != api.OK:
		case x.n.Kind == 1 && (count == 0 || count != x.n.Links):
			return false
		case x.n.Kind == 2 && x.n.Links != 1:
			return false
		case x.n.Kind == 2 && count != min(i, 1):
			return false
		}
	}
	return true
}

// soReached takes as many turns as the longest way can have steps.
func soReached(inodes []seen, leads []lead) bool {
	reached := [32]bool{true}
	for range 32 {
		for _, x := range leads {
			reached[x.to] = reached[x.to] || reached[x.from]
		}
	}
	for i, x := range inodes {
		if x.e != api.ErrNoEnt && !reached[i] {
			return false
		}
	}
	return true
}

func soBlocks(words []uint64, inodes []seen) bool {
	var all []int
	for _, x := range inodes {
		all = append(all, x.blocks...)
	}
	slices.Sort(all)
	var used []int
	for b := range 256 {
		if words[816+b/64]>>(b%64)&1 == 1 {
			used = append(used, b)
		}
	}
	return slices.Equal(all, used)
}

// soTails holds each file's bytes up to its blocks' end against noughts.
func soTails(words []uint64, inodes []seen) bool {
	for _, x := range inodes {
		for k, b := range x.n.Blocks {
			for at := range 64 {
				c := words[wordAt(b, at)] >> (at % 8 * 8) & 0xff
				if b != 0 && 64*k+at >= x.n.Size && c != 0 {
					return false
				}
			}
		}
	}
	return true
}

// great are words that are more than a place has room for; some would fit, if bits of them were lost.
var great = []uint64{1 << 63, 1<<63 + 1, 1<<63 + 2, 1 << 32, 1<<32 + 1, 1<<32 + 2, 1<<16 + 1, 256, 257, 258, math.MaxInt64, math.MaxUint64 - 1, math.MaxUint64}
