package inode_test

import (
	"math"
	"slices"
	"testing"

	"imago/api"
	"imago/fmt1"
	"imago/fmt2"
	"imago/inode"
	"imago/tx"
)

// told is what the formats themselves tell of the words of an inode.
func told(s *tx.Sheet, i int) (api.Inode, []int, api.Errno) {
	w := s.Words()[824+8*i : 832+8*i]
	if slices.Max(w) == 0 {
		return api.Inode{}, nil, api.ErrNoEnt
	}
	switch w[0] & 0xff {
	case 1:
		if n, own, ok := fmt1.Read(s, i); ok {
			return n, own, api.OK
		}
	case 2:
		if n, own, ok := fmt2.Read(s, i); ok {
			return n, own, api.OK
		}
	}
	return api.Inode{}, nil, api.ErrCorrupt
}

// askWords holds all that is told and done of an inode against what the formats tell of its words; it answers the error.
func askWords(t *testing.T, what string, s *tx.Sheet, i int) api.Errno {
	t.Helper()
	n, own, e := told(s, i)
	wantFree(t, what, s, i, e == api.ErrNoEnt)
	other := in(api.New, apart(7))
	if e == api.ErrCorrupt {
		wantUntouched(t, what, s, func() {
			wantNothing(t, what, s, i, e)
			wantAll(t, what, s, i, nil)
			wantPut(t, what, s, i, other, e)
			wantDrop(t, what, s, i, e)
		})
		return e
	}
	if e == api.OK {
		wantGet(t, what, s, i, n, own)
		blocks := slices.DeleteFunc(slices.Concat(own, n.Blocks[:]), func(b int) bool { return b == 0 })
		wantAll(t, what, s, i, blocks)
		askDrop(t, what, s, i, blocks)
	}
	mark := s.Mark()
	want, taken, _ := behindPut(s.Words(), own, i, other)
	wantPut(t, what, s, i, other, api.OK)
	wantSheet(t, what, s, want)
	wantGet(t, what, s, i, other, taken)
	s.Back(mark)
	return e
}

// askDrop drops an inode of such blocks, asks for all words, and undoes it.
func askDrop(t *testing.T, what string, s *tx.Sheet, i int, blocks []int) {
	t.Helper()
	want := given(s.Words(), blocks)
	clear(want[824+8*i : 832+8*i])
	mark := s.Mark()
	wantDrop(t, what, s, i, api.OK)
	wantSheet(t, what, s, want)
	s.Back(mark)
}

// putAt puts an inode at 6, its blocks being used, and tells the places of its words, and of those of its own blocks.
func putAt(t *testing.T, n api.Inode) (*tx.Sheet, []int) {
	t.Helper()
	s := sheetOf(append([]int{1, 3}, n.Blocks[:]...)...)
	wantPut(t, "put", s, 6, n, api.OK)
	_, own, _ := inode.Get(s, 6)
	var places []int
	for k := range 8 {
		places = append(places, tx.Inode(6)+k)
		for _, b := range own {
			places = append(places, tx.Block(b)+k)
		}
	}
	return s, places
}

// P8.1, P8.2: each bit of an inode and its own blocks turned about: another inode, or ErrCorrupt, and nothing is done.
func TestOneBit(t *testing.T) {
	for _, n := range samples() {
		s, places := putAt(t, n)
		corrupt := 0
		for _, at := range places {
			for bit := range 64 {
				mark := s.Mark()
				s.Put(at, s.Get(at)^1<<bit)
				if askWords(t, "one bit", s, 6) == api.ErrCorrupt {
					corrupt++
				}
				s.Back(mark)
			}
		}
		if corrupt < 64*len(places)/2 {
			t.Errorf("only %d of %d bits spoil %v", corrupt, 64*len(places), n)
		}
	}
}

// P8.1, P8.2: each word of them another one, that is near, or one that turns up in formats.
func TestOneWord(t *testing.T) {
	others := []uint64{
		0, 1, 2, 3, 9, 24, 25, 99, 255, 256, 257, 319, 320, 321, 832, 833, 0x101, 0x501, 0x6301, 1 << 32, 0x5_0000_0901, 1 << 63, 1<<63 + 2, 1<<63 + 256,
		0x10100, 0x10101, 0x10102, 0x10103, 0x10201, 0x10202, 0x10301, 0x10302, 0x1_0001_0101, 0x1_0001_0102, 0x0100000000000061, math.MaxUint64,
	}
	for _, n := range samples() {
		s, places := putAt(t, n)
		for _, at := range places {
			was := s.Get(at)
			for _, w := range append(slices.Clone(others), was+1, was-1, was^3, was+256, was-256, was+1<<32, was+1<<63) {
				mark := s.Mark()
				s.Put(at, w)
				askWords(t, "one word", s, 6)
				s.Back(mark)
			}
		}
	}
}

// P8.1: a tag that says the other format, or none, over the words of the one.
func TestOtherTag(t *testing.T) {
	for _, n := range samples() {
		s, _ := putAt(t, n)
		for lowest := range 256 {
			mark := s.Mark()
			s.Put(tx.Inode(6), s.Get(tx.Inode(6))&^0xff|uint64(lowest))
			got := askWords(t, "another tag", s, 6)
			if (lowest < 1 || lowest > 2) && got != api.ErrCorrupt {
				t.Errorf("the format %d: %v", lowest, got)
			}
			s.Back(mark)
		}
	}
	s, _ := putAt(t, file(0))
	s.Put(tx.Inode(6), 0x10102)
	wantGet(t, "empty in both", s, 6, in(api.New, file(0)), nil)
}

// P8.1: the first word alone 0: not free, and none's; all words 0: free, whatever its blocks were.
func TestFirstWordNought(t *testing.T) {
	for _, n := range samples() {
		s, places := putAt(t, n)
		s.Put(tx.Inode(6), 0)
		want := api.ErrCorrupt
		if n.Size == 0 {
			want = api.ErrNoEnt // no other word was there
		}
		wantNothing(t, "the first word 0", s, 6, want)
		wantFree(t, "the first word 0", s, 6, want == api.ErrNoEnt)
		askWords(t, "the first word 0", s, 6)
		for _, at := range places {
			if at < 1080 {
				s.Put(at, 0)
			}
		}
		wantNothing(t, "all words 0", s, 6, api.ErrNoEnt)
		askWords(t, "all words 0", s, 6)
	}
}

// P8.1: words that aren't an inode's are none's at each place, and leave the inodes beside as they are.
func TestCorruptBeside(t *testing.T) {
	for _, i := range edges {
		s := tx.New(nil)
		for j := range 32 {
			wantPut(t, "each", s, j, in(formats[j%2], dir(j%7)), api.OK)
		}
		s.Put(tx.Inode(i)+1, 25)
		for j := range 32 {
			if j != i {
				askWords(t, "beside", s, j)
			} else if got := askWords(t, "corrupt", s, j); got != api.ErrCorrupt {
				t.Errorf("the inode %d: %v", j, got)
			}
		}
	}
}

// R1: whatever words there are, all calls end, of all inodes.
func TestAnyWords(t *testing.T) {
	for _, w := range []uint64{1, 2, 3, 0x101, 0x102, 0x201, 0x202, 0x10101, 0x10102, 0x10201, 0x10202, 1 << 63, math.MaxUint64} {
		s := tx.New(slices.Repeat([]uint64{w}, api.Words))
		for i := range 32 {
			if got := askWords(t, "one word everywhere", s, i); got != api.ErrCorrupt {
				t.Errorf("%x everywhere: %v", w, got)
			}
		}
		wantNew(t, "one word everywhere", s, file(0), 0, api.ErrSpace)
	}
}
