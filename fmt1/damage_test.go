package fmt1_test

import (
	"math"
	"slices"
	"testing"

	"imago/api"
	"imago/fmt1"
	"imago/tx"
)

// laidAt lays an inode at 6, on noughts, and tells its own blocks.
func laidAt(t *testing.T, n api.Inode) (*tx.Sheet, []int) {
	t.Helper()
	s := tx.New(nil)
	wantLay(t, "laid", s, 6, n, api.OK)
	_, own, ok := fmt1.Read(s, 6)
	if !ok {
		t.Errorf("%v isn't read", n)
	}
	return s, own
}

// samples are inodes of each shape: with and without a list, with full and with begun blocks.
func samples() []api.Inode {
	return []api.Inode{
		file(0), file(1, 99), file(300, 99, 0, 98, 97, 96), file(320), file(321, 99, 0, 98, 97, 96, 95),
		file(832, 0, 0, 0, 0, 0, 0, 0, 0, 0, 0, 0, 0, 255), file(832, 90, 91, 92, 93, 94, 95, 96, 97, 98, 99, 100, 101, 102),
		dir(0), dir(1), dir(4), dir(5), dir(11), dir(20), dir(21), dir(24),
	}
}

// P6.2: each bit of the inode, its list and its entries turned about: another inode that is just so, or none.
func TestOneBit(t *testing.T) {
	for _, n := range samples() {
		s, own := laidAt(t, n)
		places := []int{tx.Inode(6)}
		for _, b := range own {
			places = append(places, tx.Block(b))
		}
		for _, first := range places {
			for at := first; at < first+8; at++ {
				for bit := range 64 {
					mark := s.Mark()
					s.Put(at, s.Get(at)^1<<bit)
					askModel(t, "one bit", s, 6)
					s.Back(mark)
				}
			}
		}
		wantRead(t, "all bits back", s, 6, n, own)
	}
}

// P6.2: each word of them another one, that is near, or a number that turns up in formats.
func TestOneWord(t *testing.T) {
	others := []uint64{0, 1, 2, 5, 24, 25, 31, 32, 90, 99, 255, 256, 257, 319, 320, 832, 833, 1 << 32, 1<<32 + 1, 1 << 63, math.MaxUint64, 0x10101, 0x10201, 0x10102}
	for _, n := range samples() {
		s, own := laidAt(t, n)
		for k := range 8 + 8*len(own) {
			at := tx.Inode(6) + k
			if k >= 8 {
				at = tx.Block(own[k/8-1]) + k%8
			}
			was := s.Get(at)
			for _, w := range append(slices.Clone(others), was+1, was-1, was+256, was+1<<32, was+1<<56) {
				mark := s.Mark()
				s.Put(at, w)
				askModel(t, "one word", s, 6)
				s.Back(mark)
			}
		}
	}
}

// damage is what is put over an inode's words, its own blocks being known.
type damage func(s *tx.Sheet, own []int)

// word puts one word of the inode.
func word(k int, w uint64) damage {
	return func(s *tx.Sheet, own []int) { s.Put(tx.Inode(6)+k, w) }
}

// inBlock puts one word of the j-th of its own blocks.
func inBlock(j, k int, w uint64) damage {
	return func(s *tx.Sheet, own []int) { s.Put(tx.Block(own[j])+k, w) }
}

func wantDamaged(t *testing.T, n api.Inode, l map[string]damage) {
	t.Helper()
	for what, d := range l {
		s, own := laidAt(t, n)
		d(s, own)
		wantNone(t, what, s, 6)
	}
}

// P6.2: tags that are none of the old format's.
func TestWrongTags(t *testing.T) {
	for _, n := range []api.Inode{file(0), file(321, 99, 0, 98, 97, 96, 95), dir(0), dir(24)} {
		tag := uint64(1<<16 + n.Kind<<8)
		wantDamaged(t, n, map[string]damage{
			"free":                 word(0, 0),
			"no format":            word(0, tag),
			"the new format":       word(0, tag+2),
			"the format 3":         word(0, tag+3),
			"the format 255":       word(0, tag+255),
			"no kind":              word(0, 1<<16+1),
			"the kind 3":           word(0, 1<<16+3<<8+1),
			"the kind 255":         word(0, 1<<16+255<<8+1),
			"links of 65536":       word(0, 65536<<16+tag&0xffff+1),
			"a bit above":          word(0, 1<<32+tag+1),
			"the highest bit":      word(0, 1<<63+tag+1),
			"all bits":             word(0, math.MaxUint64),
			"the links' bits lost": word(0, 1<<48+1<<16+3<<8+1),
		})
		s, own := laidAt(t, n)
		for _, links := range []int{0, 1, 256, 65535} {
			s.Put(tx.Inode(6), uint64(1+n.Kind<<8+links<<16))
			wantRead(t, "other links", s, 6, but(n, func(n *api.Inode) { n.Links = links }), own)
		}
	}
}

// P6.2: sizes that a file hasn't with these blocks.
func TestWrongSizesOfFiles(t *testing.T) {
	n := file(321, 99, 0, 98, 97, 96, 95)
	wantDamaged(t, n, map[string]damage{
		"nothing":          word(1, 0),
		"a block begins":   word(1, 320),
		"too long":         word(1, 833),
		"far too long":     word(1, 1<<31),
		"bits above":       word(1, 1<<32+321),
		"a bit far above":  word(1, 1<<40+321),
		"the highest bit":  word(1, 1<<63+321),
		"below nought":     word(1, math.MaxUint64),
		"most of integers": word(1, math.MaxInt64),
	})
	s, own := laidAt(t, n)
	for _, size := range []int{321, 322, 384, 385, 832} {
		s.Put(tx.Inode(6)+1, uint64(size))
		wantRead(t, "another size", s, 6, but(n, func(n *api.Inode) { n.Size = size }), own)
	}
}

// P6.2: numbers of blocks, and lists, that a file hasn't.
func TestWrongNumbersOfFiles(t *testing.T) {
	n := file(700, 99, 0, 98, 97, 96, 95, 0, 94)
	wantDamaged(t, n, map[string]damage{
		"no block":                    word(2, 256),
		"no block, bits above":        word(2, 1<<32+99),
		"no block, the highest bit":   word(2, 1<<63+99),
		"below nought":                word(2, math.MaxUint64),
		"no block in a hole":          word(3, 256),
		"twice":                       word(3, 99),
		"twice, the one in the list":  word(3, 95),
		"the list is no block":        word(7, 256),
		"the list's bits above":       word(7, 1<<32+1),
		"the list's highest bit":      word(7, 1<<63+1),
		"the list is all bits":        word(7, math.MaxUint64),
		"the list of noughts":         word(7, 50),
		"no block in the list":        inBlock(0, 0, 256),
		"bits above in the list":      inBlock(0, 2, 1<<32+94),
		"below nought in the list":    inBlock(0, 1, math.MaxUint64),
		"twice in the list":           inBlock(0, 1, 94),
		"twice, the other ahead":      inBlock(0, 0, 98),
		"a block at the size":         inBlock(0, 6, 50),
		"a block behind it":           inBlock(0, 7, 50),
		"no block behind the size":    inBlock(0, 7, 256),
		"all of the list are noughts": func(s *tx.Sheet, own []int) { s.Put(tx.Block(own[0]), 0); s.Put(tx.Block(own[0])+2, 0) },
		"the list of a directory":     word(0, 0x10201),
		"the list in the wrong place": func(s *tx.Sheet, own []int) {
			s.Put(tx.Inode(6)+6, s.Get(tx.Inode(6)+7))
			s.Put(tx.Inode(6)+7, 0)
			s.Put(tx.Inode(6)+2, 1)
		},
		"the block of a size of five": word(1, 320),
		"a list, where none is needed": func(s *tx.Sheet, own []int) {
			s.Put(tx.Inode(6)+1, 320)
			s.Put(tx.Block(own[0]), 0)
			s.Put(tx.Block(own[0])+2, 0)
		},
	})
	s, own := laidAt(t, n)
	s.Put(tx.Inode(6)+7, 0)
	wantRead(t, "no list: all behind are holes", s, 6, file(700, 99, 0, 98, 97, 96), nil)
	s.Put(tx.Inode(6)+7, uint64(own[0]))
	s.Put(tx.Inode(6)+2, 255)
	wantRead(t, "another block", s, 6, file(700, 255, 0, 98, 97, 96, 95, 0, 94), own)
}

// P6.2: sizes that a directory hasn't with these entries: more than there are, or fewer, or none's.
func TestWrongSizesOfDirs(t *testing.T) {
	for count := range 25 {
		for size := range 40 {
			if size != count {
				wantDamaged(t, dir(count), map[string]damage{"another size": word(1, uint64(size))})
			}
		}
		wantDamaged(t, dir(count), map[string]damage{
			"bits above":      word(1, 1<<32+uint64(count)),
			"the highest bit": word(1, 1<<63+uint64(count)),
			"all bits":        word(1, math.MaxUint64),
			"a file's size":   word(1, 832),
			"one more":        word(1, 833),
		})
	}
}

// P6.2: blocks, and lists, that a directory hasn't.
func TestWrongNumbersOfDirs(t *testing.T) {
	wantDamaged(t, dir(0), map[string]damage{
		"a block, no entries": word(2, 50),
		"a later block":       word(6, 50),
		"a list":              word(7, 50),
		"no list's number":    word(7, 256),
	})
	wantDamaged(t, dir(20), map[string]damage{
		"no first block":      word(2, 0),
		"no last block":       word(6, 0),
		"twice":               word(3, 1),
		"no block":            word(4, 256),
		"bits above":          word(4, 1<<32+3),
		"a list of noughts":   word(7, 50),
		"a list":              func(s *tx.Sheet, own []int) { s.Put(tx.Inode(6)+7, 50); s.Put(tx.Block(50), 51) },
		"the list is a block": word(7, 1),
		"swapped": func(s *tx.Sheet, own []int) {
			s.Put(tx.Inode(6)+2, uint64(own[1]))
			s.Put(tx.Inode(6)+3, uint64(own[0]))
		},
	})
	wantDamaged(t, dir(5), map[string]damage{
		"a block too many":         word(4, 50),
		"a block behind a hole":    word(6, 50),
		"the second one elsewhere": func(s *tx.Sheet, own []int) { s.Put(tx.Inode(6)+3, 0); s.Put(tx.Inode(6)+4, uint64(own[1])) },
	})
	wantDamaged(t, dir(24), map[string]damage{
		"no list":               word(7, 0),
		"the list is no block":  word(7, 256),
		"the list's bits above": word(7, 1<<32+7),
		"another list":          word(7, 50),
		"the list is a block":   word(7, 6),
		"nothing in the list":   inBlock(6, 0, 0),
		"twice":                 inBlock(6, 0, 5),
		"the list itself":       inBlock(6, 0, 7),
		"no block in the list":  inBlock(6, 0, 256),
		"bits above":            inBlock(6, 0, 1<<32+6),
		"a block too many":      inBlock(6, 1, 50),
		"one at the list's end": inBlock(6, 7, 50),
		"none, a bit above":     inBlock(6, 7, 1<<32),
		"the second of the list": func(s *tx.Sheet, own []int) {
			s.Put(tx.Block(own[6]), 0)
			s.Put(tx.Block(own[6])+1, uint64(own[5]))
		},
	})
}

// P6.2: entries that a directory hasn't, and words behind the last one.
func TestWrongEntries(t *testing.T) {
	const a, b, zz = 0x0100000000000061, 0x0100000000000062, 0x0200000000007a7a
	for _, count := range []int{2, 5, 11, 21} {
		n := dirOf("b", "c", "d", "e", "f", "g", "h", "i", "j", "k", "l", "m", "n", "o", "p", "q", "r", "s", "t", "u", "v")
		n.Entries, n.Size = n.Entries[:count], count
		last, word := (count-1)/4, (count-1)%4*2
		wantDamaged(t, n, map[string]damage{
			"no name":                inBlock(0, 0, 0),
			"a point":                inBlock(0, 0, 0x010000000000002e),
			"two points":             inBlock(0, 0, 0x0200000000002e2e),
			"a / in it":              inBlock(0, 0, 0x0300000000622f61),
			"longer than its bytes":  inBlock(0, 0, 0x0200000000000061),
			"shorter than its bytes": inBlock(0, 0, 0x0100000000006261),
			"too long":               inBlock(0, 0, 0x0861616161616161),
			"not rising":             inBlock(0, 0, zz),
			"equal":                  inBlock(0, 2, b),
			"the last one falls":     inBlock(last, word, a),
			"the inode 32":           inBlock(last, word+1, 32),
			"bits above":             inBlock(last, word+1, 1<<32+1),
			"the highest bit":        inBlock(last, word+1, 1<<63+1),
			"all bits":               inBlock(last, word+1, math.MaxUint64),
			"a name behind":          inBlock(last, word+2, zz),
			"an inode behind":        inBlock(last, word+3, 1),
			"the last word":          inBlock(last, 7, 1<<63),
			"the last name":          inBlock(last, 6, 1),
			"all noughts":            func(s *tx.Sheet, own []int) { s.Put(tx.Block(own[last])+word, 0); s.Put(tx.Block(own[last])+word+1, 0) },
		})
		s, own := laidAt(t, n)
		s.Put(tx.Block(own[0]), a)
		s.Put(tx.Block(own[last])+word+1, 31)
		other := but(n, func(n *api.Inode) { n.Entries[0].Name, n.Entries[count-1].Ino = "a", 31 })
		wantRead(t, "another name, another inode", s, 6, other, own)
	}
}

// P6.2: the block 0 has nobody's entries, whatever stands there.
func TestEntriesInBlockNought(t *testing.T) {
	for _, count := range []int{1, 4, 5, 24} {
		for k := range (count + 3) / 4 {
			s, own := laidAt(t, dir(count))
			for word := range 8 {
				s.Put(tx.Block(0)+word, s.Get(tx.Block(own[k])+word))
			}
			at := tx.Inode(6) + 2 + k
			if k == 5 {
				at = tx.Block(own[6])
			}
			s.Put(at, 0)
			wantNone(t, "the block 0", s, 6)
		}
	}
}

// P6.2: a list that is no block isn't read from somewhere else, as from the words ahead of all.
func TestListOfNoBlock(t *testing.T) {
	for _, n := range []api.Inode{file(700, 99, 0, 98, 97, 96, 95, 0, 94), dir(24)} {
		for _, list := range []uint64{256, 257, 1 << 32, 1<<32 + 1, 1 << 56, 1 << 63, 1<<63 + 1, math.MaxUint64 - 7, math.MaxUint64} {
			s, own := laidAt(t, n)
			b := own[len(own)-1]
			for at := range 16 {
				s.Put(at, s.Get(tx.Block(b)+at%8))
				s.Put(api.Words-16+at, s.Get(tx.Block(b)+at%8))
				s.Put(tx.Block(0)+at%8, s.Get(tx.Block(b)+at%8))
			}
			s.Put(tx.Inode(6)+7, list)
			wantNone(t, "no block", s, 6)
			for at := range 8 {
				s.Put(at, s.Get(tx.Block(b)+(at+1)%8))
			}
			wantNone(t, "no block, a word on", s, 6)
		}
	}
}

// P6.2: nothing is read where nothing was laid.
func TestReadNothing(t *testing.T) {
	for _, words := range [][]uint64{nil, using(), slices.Repeat([]uint64{math.MaxUint64}, api.Words), slices.Repeat([]uint64{0x10101}, api.Words), slices.Repeat([]uint64{0x10201}, api.Words)} {
		s := tx.New(words)
		for i := range 32 {
			wantNone(t, "nothing", s, i)
		}
	}
}
