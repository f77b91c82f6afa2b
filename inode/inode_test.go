package inode_test

import (
	"math"
	"slices"
	"testing"

	"imago/api"
	"imago/inode"
	"imago/tx"
)

// P8.1: an inode is free just if all its words are 0: each bit of each alone makes it none, and no other one.
func TestFree(t *testing.T) {
	for _, s := range []*tx.Sheet{tx.New(nil), sheetOf()} {
		for _, i := range edges {
			for k := range 8 {
				for bit := range 64 {
					s.Put(824+8*i+k, 1<<bit)
					wantFree(t, "one bit", s, i, false)
					for _, other := range []int{i - 1, i + 1} {
						wantFree(t, "beside", s, other, other >= 0 && other < 32)
					}
					s.Put(824+8*i+k, 0)
				}
			}
			wantFree(t, "noughts", s, i, true)
		}
	}
}

// P8.1: what is no inode isn't free, whatever words stand where it would.
func TestFreeOfNoInode(t *testing.T) {
	for _, s := range []*tx.Sheet{tx.New(nil), sheetOf()} {
		for _, i := range noInodes {
			wantFree(t, "no inode", s, i, false)
		}
	}
}

// P8.1, P8.2: no inode is ErrArg of all that is asked of one, ahead of everything.
func TestNoInode(t *testing.T) {
	for _, s := range []*tx.Sheet{tx.New(nil), sheetOf(), sheetOf(butFree()...), tx.New(slices.Repeat([]uint64{0x10101}, api.Words))} {
		for _, i := range noInodes {
			wantUntouched(t, "no inode", s, func() {
				wantNothing(t, "no inode", s, i, api.ErrArg)
				wantPut(t, "no inode", s, i, file(0), api.ErrArg)
				wantPut(t, "no inode", s, i, in(api.New, dir(24)), api.ErrArg)
				wantPut(t, "no inode", s, i, api.Inode{}, api.ErrArg)
				wantDrop(t, "no inode", s, i, api.ErrArg)
				wantAll(t, "no inode", s, i, nil)
			})
		}
	}
}

// P8.1, P8.2: of an inode that is free nothing is got, nor dropped, and it has no blocks.
func TestFreeInode(t *testing.T) {
	for _, s := range []*tx.Sheet{tx.New(nil), sheetOf(), sheetOf(butFree()...)} {
		for i := range 32 {
			wantUntouched(t, "free", s, func() {
				wantNothing(t, "free", s, i, api.ErrNoEnt)
				wantDrop(t, "free", s, i, api.ErrNoEnt)
				wantAll(t, "free", s, i, nil)
			})
		}
	}
}

// P8.1: the format is the lowest byte of the first word: by it the same words are read, or not.
func TestFormatByLowestByte(t *testing.T) {
	for _, i := range edges {
		s := tx.New(nil)
		s.Put(824+8*i+1, 832)
		s.Put(824+8*i+2, 9)
		s.Put(824+8*i, 0x20101)
		n := but(file(832, 9), func(n *api.Inode) { n.Links = 2 })
		wantGet(t, "old, the block 9", s, i, n, nil)
		s.Put(824+8*i+2, 0x902)
		wantNothing(t, "old, no block", s, i, api.ErrCorrupt)
		s.Put(824+8*i, 0x20102)
		n = but(in(api.New, file(832, 9, 10)), func(n *api.Inode) { n.Links = 2 })
		wantGet(t, "new, the blocks 9 and 10", s, i, n, nil)
		s.Put(824+8*i+2, 9)
		wantNothing(t, "new, no number", s, i, api.ErrCorrupt)
		s.Put(824+8*i+2, 0)
		for _, lowest := range []uint64{0, 3, 4, 5, 16, 129, 130, 254, 255} {
			s.Put(824+8*i, 0x20100+lowest)
			wantNothing(t, "of no format", s, i, api.ErrCorrupt)
		}
	}
}

// P8.1: the words of each shape, laid by hand in both formats, are told with the blocks that the format takes.
func TestGetWordsByHand(t *testing.T) {
	s := tx.New(nil)
	lay := func(at int, l ...uint64) {
		for k, w := range l {
			s.Put(at+k, w)
		}
	}
	lay(824+8*1, 0x10101, 700, 99, 0, 98, 0, 97, 41)
	lay(1080+8*41, 96, 0, 95)
	wantGet(t, "an old file with a list", s, 1, file(700, 99, 0, 98, 0, 97, 96, 0, 95), []int{41})
	lay(824+8*2, 0x10102, 832, 0x101, 0x1_0000_0301, 0x2_0000_0501, 0x3_0000_0701, 0x4_0000_0901, 1<<63+42)
	lay(1080+8*42, 0x5_0000_0b01, 0x6_0000_0d02)
	wantGet(t, "a new file of seven runs", s, 2, in(api.New, file(832, 1, 3, 5, 7, 9, 11, 13, 14)), []int{42})
	const a = 0x0100000000000061
	lay(824+8*3, 0x10201, 5, 52, 51)
	lay(1080+8*52, a, 3, a+1, 10, a+2, 17, a+3, 24)
	lay(1080+8*51, a+4, 31)
	wantGet(t, "an old directory", s, 3, dir(5), []int{52, 51})
	lay(824+8*4, 0x10202, 5, 64, 63, 62, 61)
	lay(1080+8*64, 0, a+1, 10)
	lay(1080+8*63, 0, a+2, 17)
	lay(1080+8*62, 0, a+3, 24)
	lay(1080+8*61, 0, a, 3, a+4, 31)
	wantGet(t, "a new directory", s, 4, in(api.New, dir(5)), []int{64, 63, 62, 61})
}

// P8.1: what is put where nothing is: the words that the format lays, and no others; each inode, each shape.
func TestPutWhereFree(t *testing.T) {
	for _, n := range samples() {
		for _, i := range edges {
			s := sheetOf(append([]int{0, 2, 4, 63, 64}, n.Blocks[:]...)...)
			want, own, _ := behindPut(s.Words(), nil, i, n)
			wantPut(t, "where free", s, i, n, api.OK)
			wantSheet(t, "where free", s, want)
			wantGet(t, "where free", s, i, n, own)
			wantFree(t, "where free", s, i, false)
		}
	}
}

// P8.1, and the chapter's example: the words of a file, put in the old format, in the new one, and in the old one again.
func TestWordsThereAndBack(t *testing.T) {
	n := file(832, 20, 21, 22, 0, 30, 31, 0, 40, 50, 60, 70, 80)
	s := sheetOf(butFree(7, 9)...)
	words := s.Words()
	wantPut(t, "old", s, 3, n, api.OK)
	copy(words[824+8*3:], []uint64{0x10101, 832, 20, 21, 22, 0, 30, 7})
	copy(words[1080+8*7:], []uint64{31, 0, 40, 50, 60, 70, 80, 0})
	words[816] |= 1 << 7
	wantSheet(t, "old", s, words)
	wantGet(t, "old", s, 3, n, []int{7})

	wantPut(t, "new", s, 3, in(api.New, n), api.OK)
	copy(words[824+8*3:], []uint64{0x10102, 832, 0x1403, 0x4_0000_1e02, 0x7_0000_2801, 0x8_0000_3201, 0x9_0000_3c01, 1<<63 + 7})
	copy(words[1080+8*7:], []uint64{0xa_0000_4601, 0xb_0000_5001, 0, 0, 0, 0, 0, 0})
	wantSheet(t, "new", s, words)
	wantGet(t, "new", s, 3, in(api.New, n), []int{7})

	n.Blocks[11] = 0
	wantPut(t, "new, six runs", s, 3, in(api.New, n), api.OK)
	copy(words[824+8*3:], []uint64{0x10102, 832, 0x1403, 0x4_0000_1e02, 0x7_0000_2801, 0x8_0000_3201, 0x9_0000_3c01, 0xa_0000_4601})
	words[816] &^= 1 << 7
	wantSheet(t, "new, six runs", s, words)
	wantGet(t, "new, six runs", s, 3, in(api.New, n), nil)

	wantPut(t, "old again", s, 3, n, api.OK)
	copy(words[824+8*3:], []uint64{0x10101, 832, 20, 21, 22, 0, 30, 7})
	copy(words[1080+8*7:], []uint64{31, 0, 40, 50, 60, 70, 0, 0})
	words[816] |= 1 << 7
	wantSheet(t, "old again", s, words)
	wantGet(t, "old again", s, 3, n, []int{7})
}

// P8.1: own blocks are given back ahead of what is taken: the lowest of both are taken, the others are free.
func TestLowestTaken(t *testing.T) {
	s := sheetOf(0, 1, 2, 3, 4, 6, 7)
	wantPut(t, "at first", s, 9, dir(5), api.OK)
	wantGet(t, "at first", s, 9, dir(5), []int{5, 8})
	s.Put(816, s.Get(816)&^(1<<3|1<<6)) // 3 and 6 are free now
	wantPut(t, "larger", s, 9, dir(9), api.OK)
	wantGet(t, "larger", s, 9, dir(9), []int{3, 5, 6})
	wantPut(t, "over itself", s, 9, dir(9), api.OK)
	wantGet(t, "over itself", s, 9, dir(9), []int{3, 5, 6})
	wantPut(t, "the other format", s, 9, in(api.New, dir(9)), api.OK)
	wantGet(t, "the other format", s, 9, in(api.New, dir(9)), []int{3, 5, 6, 8})
	wantPut(t, "smaller", s, 9, in(api.New, dir(1)), api.OK)
	wantGet(t, "smaller", s, 9, in(api.New, dir(1)), []int{3})
	wantPut(t, "a file", s, 9, file(0), api.OK)
	wantGet(t, "a file", s, 9, file(0), nil)
	if got := freeBlocks(s.Words()); !slices.Equal(got[:4], []int{3, 5, 6, 8}) {
		t.Error("free are", got)
	}
}

// P8.1: a file's blocks are neither given back nor taken by a put, whether the inode that is put has them or not.
func TestPutLeavesFilesBlocks(t *testing.T) {
	for _, format := range formats {
		s := tx.New(nil)
		blocks := []int{50, 52, 54, 56, 58, 60, 62, 64}
		use(s, blocks...)
		wantPut(t, "a file", s, 2, in(format, file(832, blocks...)), api.OK)
		wantPut(t, "an empty one", s, 2, in(format, file(0)), api.OK)
		if got := s.Get(816); got != 1<<50|1<<52|1<<54|1<<56|1<<58|1<<60|1<<62 || s.Get(817) != 1 {
			t.Errorf("the bits are %x, %x", got, s.Get(817))
		}
		wantPut(t, "one of free blocks", s, 2, in(format, file(832, 200, 201)), api.OK)
		if s.Get(819) != 0 {
			t.Errorf("the bits are %x", s.Get(819))
		}
	}
}

// P8.1: what isn't right, or is of no format, is ErrArg, over inodes of all kinds, also where there is no room.
func TestPutWrong(t *testing.T) {
	for _, used := range [][]int{nil, butFree()} {
		s := sheetOf()
		wantPut(t, "a file", s, 30, apart(7), api.OK)
		wantPut(t, "a directory", s, 31, in(api.New, dir(24)), api.OK)
		s.Put(824+8*5, 0x10103)
		s.Put(824+8*6+7, 1)
		use(s, used...)
		for _, n := range wrong() {
			wantUntouched(t, "wrong", s, func() {
				for _, i := range []int{0, 5, 6, 30, 31} {
					wantPut(t, "wrong", s, i, n, api.ErrArg)
				}
			})
		}
		wantGet(t, "the file", s, 30, apart(7), []int{1})
		wantGet(t, "the directory", s, 31, in(api.New, dir(24)), []int{2, 3, 4, 5, 6, 7, 8, 9})
	}
}

// P8.1: ErrCorrupt of what stands there comes ahead of ErrSpace, and nothing is laid over it.
func TestPutOverCorrupt(t *testing.T) {
	for _, used := range [][]int{nil, butFree()} {
		for k := range 8 {
			for _, w := range []uint64{1, 3, 0x10100, 0x10103, 0x10301, 1 << 63, math.MaxUint64} {
				s := sheetOf(used...)
				s.Put(824+8*4+k, w)
				wantUntouched(t, "corrupt", s, func() {
					wantNothing(t, "corrupt", s, 4, api.ErrCorrupt)
					wantPut(t, "corrupt", s, 4, file(0), api.ErrCorrupt)
					wantPut(t, "corrupt", s, 4, in(api.New, dir(24)), api.ErrCorrupt)
					wantDrop(t, "corrupt", s, 4, api.ErrCorrupt)
					wantAll(t, "corrupt", s, 4, nil)
					wantFree(t, "corrupt", s, 4, false)
				})
			}
		}
	}
}

// P8.1, P8.3: each inode, of each shape and format, put over each other one, and over itself.
func TestPutOverEach(t *testing.T) {
	all := samples()
	for _, a := range all {
		for _, b := range all {
			s := sheetOf(slices.Concat([]int{2, 3, 64}, a.Blocks[:], b.Blocks[:])...)
			wantPut(t, "at first", s, 31, a, api.OK)
			_, was, _ := inode.Get(s, 31)
			want, own, _ := behindPut(s.Words(), was, 31, b)
			wantPut(t, "over it", s, 31, b, api.OK)
			wantSheet(t, "over it", s, want)
			wantGet(t, "over it", s, 31, b, own)
		}
	}
}

// P8.1: as many blocks free as are needed, and one fewer: the own blocks that are given back count, a file's don't.
func TestRoomOverEach(t *testing.T) {
	all := append(samples(), api.Inode{}) // at first nothing, too
	for _, a := range all {
		for _, b := range samples() {
			s := sheetOf(slices.Concat([]int{0, 5, 70}, a.Blocks[:], b.Blocks[:])...)
			if a.Format != 0 {
				wantPut(t, "at first", s, 12, a, api.OK)
			}
			_, was, _ := inode.Get(s, 12)
			lacking := ownCount(b) - len(was)
			fill(s, max(lacking, 0))
			mark := s.Mark()
			want, own, _ := behindPut(s.Words(), was, 12, b)
			wantPut(t, "just room", s, 12, b, api.OK)
			wantSheet(t, "just room", s, want)
			wantGet(t, "just room", s, 12, b, own)
			s.Back(mark)
			if lacking < 1 {
				continue
			}
			fill(s, lacking-1)
			wantUntouched(t, "one fewer", s, func() { wantPut(t, "one fewer", s, 12, b, api.ErrSpace) })
			if a.Format != 0 {
				wantGet(t, "one fewer", s, 12, a, was)
			}
		}
	}
}

// P8.1: an own block that nobody said is used is there to be taken, as all that are free.
func TestOwnBlockNotUsed(t *testing.T) {
	s := sheetOf(butFree(9)...)
	wantPut(t, "a list", s, 1, apart(7), api.OK)
	s.Put(816, s.Get(816)&^(1<<9))
	wantPut(t, "another", s, 1, apart(8), api.OK)
	wantGet(t, "another", s, 1, apart(8), []int{9})
	wantPut(t, "no list", s, 1, file(0), api.OK)
	if got := freeBlocks(s.Words()); !slices.Equal(got, []int{9}) {
		t.Error("free are", got)
	}
}

// P8.1, R4: what lacked room can be put, once there is some; what was put can be undone by the sheet's mark.
func TestErrSpaceThenRoom(t *testing.T) {
	for _, format := range formats {
		s := sheetOf(butFree(11, 22)...)
		wantPut(t, "a directory", s, 8, in(format, dir(1)), api.OK)
		words := s.Words()
		mark := s.Mark()
		wantPut(t, "no room", s, 8, in(format, spread(13)), api.ErrSpace)
		wantSheet(t, "no room", s, words)
		inode.Put(s, 9, in(format, dir(1)))
		wantDrop(t, "room", s, 9, api.OK)
		wantPut(t, "in the rest", s, 8, in(format, spread(0, 4)), api.OK)
		s.Back(mark)
		wantSheet(t, "undone", s, words)
		wantGet(t, "undone", s, 8, in(format, dir(1)), []int{11})
	}
}

// P8.2: New gives out the lowest that is free, till none is.
func TestNewTakesAll(t *testing.T) {
	s := sheetOf(0, 7, 64)
	for i := range 32 {
		wantNew(t, "one by one", s, in(formats[i%2], dir(i%6)), i, api.OK)
	}
	for i := range 32 {
		n, own, e := inode.Get(s, i)
		if e != api.OK || !same(n, in(formats[i%2], dir(i%6))) || len(own) != ownCount(n) {
			t.Errorf("the inode %d: %v, %v, %v", i, n, own, e)
		}
	}
	wantUntouched(t, "none is free", s, func() {
		for _, n := range append(samples(), wrong()...) {
			wantNew(t, "none is free", s, n, 0, api.ErrSpace)
		}
	})
}

// P8.2: all inodes taken but one, or but two: the first that is free is given out, what was told is what Put does.
func TestNewAllButOne(t *testing.T) {
	full := sheetOf(20)
	for i := range 32 {
		wantPut(t, "all", full, i, in(formats[i%2], file(0)), api.OK)
	}
	for i := range 32 {
		for _, n := range []api.Inode{apart(7), in(api.New, apart(7)), dir(24), in(api.New, dir(24)), file(0)} {
			s := tx.New(full.Words())
			wantDrop(t, "one", s, i, api.OK)
			want, own, _ := behindPut(s.Words(), nil, i, n)
			wantNew(t, "all but one", s, n, i, api.OK)
			wantSheet(t, "all but one", s, want)
			wantGet(t, "all but one", s, i, n, own)
			wantNew(t, "all", s, n, 0, api.ErrSpace)
			for j := range i {
				wantDrop(t, "one", s, i, api.OK)
				wantDrop(t, "another", s, j, api.OK)
				wantNew(t, "the first of two", s, file(0), j, api.OK)
				wantNew(t, "the other", s, file(0), i, api.OK)
			}
		}
	}
}

// P8.2: what isn't right, and what lacks room, is Put's error of the first that is free; nothing is otherwise, and none is told.
func TestNewErrors(t *testing.T) {
	for _, taken := range []int{0, 1, 30, 31} {
		s := sheetOf()
		for range taken {
			inode.New(s, file(0))
		}
		for _, n := range wrong() {
			wantUntouched(t, "wrong", s, func() { wantNew(t, "wrong", s, n, 0, api.ErrArg) })
		}
		for _, n := range samples() {
			mark := s.Mark()
			fill(s, ownCount(n))
			filled := s.Mark()
			wantNew(t, "just room", s, n, taken, api.OK)
			s.Back(filled)
			if ownCount(n) > 0 {
				fill(s, ownCount(n)-1)
				wantUntouched(t, "one fewer", s, func() { wantNew(t, "one fewer", s, n, 0, api.ErrSpace) })
			}
			s.Back(mark)
		}
		wantNew(t, "behind all", s, file(0), taken, api.OK)
	}
}

// P8.2: an inode that can't be got isn't free, be its first word 0 or not: New passes it over.
func TestNewPassesCorrupt(t *testing.T) {
	s := tx.New(nil)
	s.Put(824, 3)
	s.Put(824+8*1+1, 1)
	s.Put(824+8*2+7, 1<<63)
	s.Put(824+8*4, math.MaxUint64)
	wantNew(t, "the fourth", s, dir(1), 3, api.OK)
	wantNew(t, "the sixth", s, in(api.New, apart(7)), 5, api.OK)
	for i := range 32 {
		s.Put(824+8*i, 0)
		s.Put(824+8*i+5, uint64(i)+1)
	}
	wantUntouched(t, "all corrupt", s, func() { wantNew(t, "all corrupt", s, file(0), 0, api.ErrSpace) })
}

// P8.2: an inode's own blocks in their order, then a file's by their places, without holes.
func TestAll(t *testing.T) {
	s := tx.New([]uint64{})
	use(s, 1, 3, 4)
	wantPut(t, "no list", s, 0, file(320, 99, 0, 98), api.OK)
	wantAll(t, "no list", s, 0, []int{99, 98})
	wantPut(t, "a list", s, 0, file(832, 99, 0, 1, 200, 3, 0, 255, 4), api.OK)
	wantAll(t, "a list", s, 0, []int{2, 99, 1, 200, 3, 255, 4})
	wantPut(t, "six runs", s, 1, in(api.New, apart(6)), api.OK)
	wantAll(t, "six runs", s, 1, []int{100, 102, 104, 106, 108, 110})
	wantPut(t, "seven runs", s, 1, in(api.New, apart(7)), api.OK)
	wantAll(t, "seven runs", s, 1, []int{5, 100, 102, 104, 106, 108, 110, 112})
	wantPut(t, "one run", s, 1, in(api.New, file(192, 9, 10, 11)), api.OK)
	wantAll(t, "one run", s, 1, []int{9, 10, 11})
	wantPut(t, "holes", s, 1, in(api.New, file(832)), api.OK)
	wantAll(t, "holes", s, 1, nil)
	wantPut(t, "an old directory", s, 2, dir(24), api.OK)
	wantAll(t, "an old directory", s, 2, []int{5, 6, 7, 8, 9, 10, 11})
	wantPut(t, "a new directory", s, 31, in(api.New, dir(5)), api.OK)
	wantAll(t, "a new directory", s, 31, []int{12, 13, 14, 15})
	wantPut(t, "no entry", s, 31, dir(0), api.OK)
	wantAll(t, "no entry", s, 31, nil)
}

// P8.2: blocks of entries are told in the order of the entries, be their numbers as they may.
func TestAllIsNotSorted(t *testing.T) {
	s := tx.New(nil)
	wantPut(t, "old", s, 2, dir(8), api.OK)
	for k := range 8 {
		a, b := s.Get(tx.Block(1)+k), s.Get(tx.Block(2)+k)
		s.Put(tx.Block(1)+k, b)
		s.Put(tx.Block(2)+k, a)
	}
	s.Put(tx.Inode(2)+2, 2)
	s.Put(tx.Inode(2)+3, 1)
	wantGet(t, "swapped", s, 2, dir(8), []int{2, 1})
	wantAll(t, "swapped", s, 2, []int{2, 1})
}

// P8.2: a block that an inode has twice is told twice.
func TestAllTwice(t *testing.T) {
	for _, format := range formats {
		s := tx.New(nil)
		n := in(format, file(832, 20, 1, 22, 24, 26, 28, 30)) // nobody said that 1 is used
		wantPut(t, "twice", s, 2, n, api.OK)
		wantGet(t, "twice", s, 2, n, []int{1})
		wantAll(t, "twice", s, 2, []int{1, 20, 1, 22, 24, 26, 28, 30})
		wantDrop(t, "twice", s, 2, api.OK)
		wantFree(t, "twice", s, 2, true)
	}
}

// P8.2: behind Drop just the inode's words are 0, and its blocks' bits: the blocks' words stay.
func TestDrop(t *testing.T) {
	for _, n := range samples() {
		for _, i := range edges {
			s := sheetOf(append([]int{0, 2, 50, 200}, n.Blocks[:]...)...)
			before := len(freeBlocks(s.Words()))
			wantPut(t, "put", s, i, n, api.OK)
			words := given(s.Words(), inode.All(s, i))
			clear(words[824+8*i : 824+8*i+8])
			files := len(inode.All(s, i)) - ownCount(n)
			wantDrop(t, "drop", s, i, api.OK)
			wantSheet(t, "drop", s, words)
			wantFree(t, "drop", s, i, true)
			if got := len(freeBlocks(s.Words())); got != before+files {
				t.Errorf("%d blocks are free, want %d and a file's %d", got, before, files)
			}
			wantUntouched(t, "again", s, func() {
				wantNothing(t, "again", s, i, api.ErrNoEnt)
				wantDrop(t, "again", s, i, api.ErrNoEnt)
				wantAll(t, "again", s, i, nil)
			})
		}
	}
}

// P8.2: all inodes put and dropped: no block is used, and each inode can be given out again.
func TestDropAll(t *testing.T) {
	s := tx.New(nil)
	for i := range 32 {
		n := in(formats[i%2], file(832-i, 3*i+150, 0, 3*i+151))
		if i%3 == 0 {
			n = in(formats[i%2], dir(i%20))
		}
		use(s, inode.All(s, i)...)
		use(s, n.Blocks[0], n.Blocks[2])
		wantNew(t, "each", s, n, i, api.OK)
	}
	for _, i := range []int{31, 0, 16, 1, 30} {
		wantDrop(t, "one", s, i, api.OK)
	}
	wantNew(t, "the first", s, file(0), 0, api.OK)
	wantNew(t, "the next", s, dir(1), 1, api.OK)
	for i := range 32 {
		want := api.OK
		if i == 16 || i >= 30 {
			want = api.ErrNoEnt
		}
		wantDrop(t, "each", s, i, want)
		wantFree(t, "each", s, i, true)
	}
	if s.Get(816)&^1|s.Get(817)|s.Get(818)|s.Get(819) != 0 {
		t.Errorf("the bits are %x, %x, %x, %x", s.Get(816), s.Get(817), s.Get(818), s.Get(819))
	}
}

// P8.3: put in the other format, and back again, the same is got, but for the format; other inodes are as they were.
func TestThereAndBack(t *testing.T) {
	for _, n := range samples() {
		s := sheetOf(append([]int{1, 3, 5}, n.Blocks[:]...)...)
		wantPut(t, "beside", s, 6, dir(24), api.OK)
		wantPut(t, "beside", s, 8, in(api.New, spread(24)), api.OK)
		_, before, _ := inode.Get(s, 6)
		_, behind, _ := inode.Get(s, 8)
		words := s.Words()
		for _, format := range []int{api.Old, api.New, api.Old, api.Old, api.New, api.New} {
			want, own, _ := behindPut(words, nil, 7, in(format, n))
			wantPut(t, "turned", s, 7, in(format, n), api.OK)
			wantGet(t, "turned", s, 7, in(format, n), own)
			if got := s.Words(); !slices.Equal(got[816:1080], want[816:1080]) {
				t.Errorf("turned to %d: the bits or inodes are other ones than if it were put there alone", format)
			}
		}
		wantGet(t, "beside", s, 6, dir(24), before)
		wantGet(t, "beside", s, 8, in(api.New, spread(24)), behind)
	}
}

// R5: what is handed in is left, its spare room too, and isn't kept; what is answered is new.
func TestNothingShared(t *testing.T) {
	for _, format := range formats {
		room := dir(24).Entries
		kept := slices.Clone(room)
		n := in(format, dir(0))
		n.Entries, n.Size = room[:11], 11
		other := but(n, func(n *api.Inode) {})
		s := tx.New(nil)
		wantPut(t, "put", s, 0, n, api.OK)
		wantNew(t, "new", s, n, 1, api.OK)
		got, own, _ := inode.Get(s, 1)
		wantOwn := slices.Clone(own)
		clear(own[:cap(own)])
		clear(got.Entries[:cap(got.Entries)])
		l := inode.All(s, 1)
		clear(l[:cap(l)])
		if !slices.Equal(room, kept) {
			t.Error("what was handed in is another", room)
		}
		clear(room)
		wantGet(t, "all cleared", s, 1, other, wantOwn)
		wantAll(t, "all cleared", s, 1, wantOwn)
	}
}

// R4, R5: what asks alone puts nothing.
func TestAskingPutsNothing(t *testing.T) {
	for _, n := range samples() {
		s := sheetOf(n.Blocks[:]...)
		wantPut(t, "put", s, 3, n, api.OK)
		wantUntouched(t, "asked", s, func() {
			for i := range 32 {
				inode.Get(s, i)
				inode.Free(s, i)
				inode.All(s, i)
			}
		})
	}
}

// R7: sheets don't hang on one another.
func TestSheetsApart(t *testing.T) {
	a, b := sheetOf(), sheetOf()
	words := b.Words()
	wantNew(t, "the one", a, dir(24), 0, api.OK)
	wantSheet(t, "the other", b, words)
	wantNew(t, "the other", b, in(api.New, apart(8)), 0, api.OK)
	wantGet(t, "the one", a, 0, dir(24), []int{1, 2, 3, 4, 5, 6, 7})
	wantGet(t, "the other", b, 0, in(api.New, apart(8)), []int{1})
	wantDrop(t, "the other", b, 0, api.OK)
	wantFree(t, "the one", a, 0, false)
}
