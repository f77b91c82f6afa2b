package fmt2_test

import (
	"math"
	"slices"
	"strconv"
	"testing"

	"imago/api"
	"imago/tx"
)

// laidAt lays an inode at 6, on noughts, and tells its own blocks, which are the first ones.
func laidAt(t *testing.T, n api.Inode) (*tx.Sheet, []int) {
	t.Helper()
	s := tx.New(nil)
	wantLay(t, "laid", s, 6, n, api.OK)
	own := upTo(blocksOf(n))
	wantRead(t, "laid", s, 6, n, own)
	return s, own
}

// samples are inodes of each shape: of few runs and of many, with empty, begun and full blocks of entries.
func samples() []api.Inode {
	return []api.Inode{
		file(0), file(1, 99), file(832), file(832, 90, 91, 92, 93, 94, 95, 96, 97, 98, 99, 100, 101, 102), file(300, 99, 0, 98, 97, 96),
		apart(5), apart(6), apart(7), apart(8), apart(13), file(832, 50, 51, 60, 61, 0, 63, 70, 69, 68, 80, 0, 81, 255),
		dir(0), dir(1), dir(0, 1), dir(3), dir(0, 0, 4), dir(1, 1, 1, 1), dir(4, 0, 3, 2), dir(0, 0, 0, 24), dir(6, 6, 6, 6), dir(1, 1, 1, 21),
	}
}

// P7.2: each bit of the inode and its own blocks turned about: another inode that is just so, or none.
func TestOneBit(t *testing.T) {
	for _, n := range samples() {
		s, own := laidAt(t, n)
		places := []int{tx.Inode(6)}
		for _, b := range own {
			places = append(places, tx.Block(b))
		}
		for _, first := range places {
			for at := first; at < first+8; at++ {
				for bit := range 64 {
					mark := s.Mark()
					s.Put(at, s.Get(at)^1<<bit)
					askModel(t, "one bit", s, 6)
					s.Back(mark)
				}
			}
		}
		wantRead(t, "all bits back", s, 6, n, own)
	}
}

// P7.2: each word of them another one, that is near, or one that turns up in formats.
func TestOneWord(t *testing.T) {
	others := []uint64{
		0, 1, 2, 3, 4, 7, 24, 25, 31, 32, 90, 99, 255, 256, 257, 319, 320, 832, 833, 0x101, 0x501, 0x10d, 0x10e, 0xff01, 0xff02, 0x6301,
		1 << 32, 0x1_0000_0101, 0xc_0000_0101, 0xc_0000_0102, 0xd_0000_0101, 1 << 63, 1<<63 + 1, 1<<63 + 2, 1<<63 + 99, 1<<63 + 255, 1<<63 + 256,
		0x10101, 0x10201, 0x10102, 0x10202, 0x0100000000000061, 0x0100000000000062, 0x0100000000000063, math.MaxUint64,
	}
	for _, n := range samples() {
		s, own := laidAt(t, n)
		for k := range 8 + 8*len(own) {
			at := tx.Inode(6) + k
			if k >= 8 {
				at = tx.Block(own[k/8-1]) + k%8
			}
			was := s.Get(at)
			for _, w := range append(slices.Clone(others), was+1, was-1, was+256, was-256, was+1<<32, was-1<<32, was+1<<56, was+1<<63) {
				mark := s.Mark()
				s.Put(at, w)
				askModel(t, "one word", s, 6)
				s.Back(mark)
			}
		}
	}
}

// P7.2: each two words of an inode and its own blocks, swapped.
func TestSwapped(t *testing.T) {
	for _, n := range samples() {
		s, own := laidAt(t, n)
		var places []int
		for k := range 8 {
			places = append(places, tx.Inode(6)+k)
			for _, b := range own {
				places = append(places, tx.Block(b)+k)
			}
		}
		for _, a := range places {
			for _, b := range places {
				if a < b && s.Get(a) != s.Get(b) {
					mark := s.Mark()
					was := s.Get(a)
					s.Put(a, s.Get(b))
					s.Put(b, was)
					askModel(t, "swapped", s, 6)
					s.Back(mark)
				}
			}
		}
	}
}

// damage is what is put over an inode's words, its own blocks being known.
type damage func(s *tx.Sheet, own []int)

// word puts one word of the inode.
func word(k int, w uint64) damage {
	return func(s *tx.Sheet, own []int) { s.Put(tx.Inode(6)+k, w) }
}

// inBlock puts one word of the j-th of its own blocks.
func inBlock(j, k int, w uint64) damage {
	return func(s *tx.Sheet, own []int) { s.Put(tx.Block(own[j])+k, w) }
}

// all does one behind the other.
func all(l ...damage) damage {
	return func(s *tx.Sheet, own []int) {
		for _, d := range l {
			d(s, own)
		}
	}
}

func wantDamaged(t *testing.T, n api.Inode, l map[string]damage) {
	t.Helper()
	for what, d := range l {
		s, own := laidAt(t, n)
		d(s, own)
		wantNone(t, what, s, 6)
	}
}

// P7.2: tags that are none of the new format's.
func TestWrongTags(t *testing.T) {
	for _, n := range []api.Inode{file(0), apart(6), apart(9), dir(0), dir(1, 2, 3, 4)} {
		tag := uint64(1<<16 + n.Kind<<8)
		wantDamaged(t, n, map[string]damage{
			"free":                 word(0, 0),
			"no format":            word(0, tag),
			"the old format":       word(0, tag+1),
			"the format 3":         word(0, tag+3),
			"the format 255":       word(0, tag+255),
			"no kind":              word(0, 1<<16+2),
			"the kind 3":           word(0, 1<<16+3<<8+2),
			"the kind 255":         word(0, 1<<16+255<<8+2),
			"links of 65536":       word(0, 65536<<16+tag&0xffff+2),
			"a bit above":          word(0, 1<<32+tag+2),
			"the highest bit":      word(0, 1<<63+tag+2),
			"all bits":             word(0, math.MaxUint64),
			"the links' bits lost": word(0, 1<<48+1<<16+3<<8+2),
		})
		s, own := laidAt(t, n)
		for _, links := range []int{0, 1, 256, 65535} {
			s.Put(tx.Inode(6), uint64(2+n.Kind<<8+links<<16))
			wantRead(t, "other links", s, 6, but(n, func(n *api.Inode) { n.Links = links }), own)
		}
	}
	wantDamaged(t, apart(3), map[string]damage{"a directory": word(0, 0x10202)})
	wantDamaged(t, dir(1, 2, 3, 4), map[string]damage{"a file": word(0, 0x10102)})
	s, _ := laidAt(t, file(0))
	s.Put(tx.Inode(6), 0x10202)
	wantRead(t, "empty, of the other kind", s, 6, dir(0), nil)
}

// P7.2: sizes that a file hasn't with these blocks.
func TestWrongSizesOfFiles(t *testing.T) {
	n := file(321, 99, 0, 98, 97, 96, 95)
	wantDamaged(t, n, map[string]damage{
		"nothing":            word(1, 0),
		"a block begins":     word(1, 320),
		"too long":           word(1, 833),
		"far too long":       word(1, 1<<31),
		"bits above":         word(1, 1<<32+321),
		"a bit far above":    word(1, 1<<40+321),
		"the highest bit":    word(1, 1<<63+321),
		"below nought":       word(1, math.MaxUint64),
		"most of integers":   word(1, math.MaxInt64),
		"the fewest of them": word(1, 1<<63),
	})
	s, own := laidAt(t, n)
	for _, size := range []int{321, 322, 384, 385, 832} {
		s.Put(tx.Inode(6)+1, uint64(size))
		wantRead(t, "another size", s, 6, but(n, func(n *api.Inode) { n.Size = size }), own)
	}
	wantDamaged(t, apart(13), map[string]damage{"ahead of the last": word(1, 768), "all of the others": word(1, 320), "nothing": word(1, 0), "too long": word(1, 833)})
}

// P7.2: runs that a file hasn't.
func TestWrongRuns(t *testing.T) {
	// Four runs: 20 to 22, from the place 4 on 40, from the place 6 on 60 and 61, at the place 9 80; the words 6 and 7 are 0.
	n := file(800, 20, 21, 22, 0, 40, 0, 60, 61, 0, 80)
	wantDamaged(t, n, map[string]damage{
		"of no blocks":                    word(2, 0x1400),
		"of no blocks, at the end":        word(6, 0x0a_0000_5000),
		"a place alone":                   word(6, 0x0a_0000_0000),
		"a count alone":                   word(6, 3),
		"over the last place":             word(5, 0xc_0000_5002),
		"at no place":                     word(5, 0xd_0000_5001),
		"far from a place":                word(5, 0x100_0000_5001),
		"at a place with a bit above":     word(5, 0x10009_0000_5001),
		"at a place below nought":         word(5, 0xffffffff_0000_5001),
		"too many":                        word(5, 0x9_0000_50ff),
		"of the block 0":                  word(2, 0x0003),
		"of a hole":                       word(6, 0xb_0000_0001),
		"of no block":                     word(2, 0x10001),
		"of no block, a bit above":        word(2, 0x1001403),
		"of no block, the highest bit":    word(2, 0x80001403),
		"of the highest, and one more":    word(2, 0xff02),
		"of the highest, and more":        word(2, 0xfe03),
		"two that are one":                all(word(2, 0x1402), word(6, 0x2_0000_1601)),
		"two that are one, one by one":    all(word(2, 0x1401), word(3, 0x1_0000_1501), word(4, 0x2_0000_1601), word(5, 0x4_0000_2801), word(6, 0x6_0000_3c02), word(7, 0x9_0000_5001)),
		"a part of one":                   all(word(4, 0x6_0000_3c01), word(5, 0x7_0000_3d01), word(6, 0x9_0000_5001)),
		"one over a hole":                 word(3, 0x3_0000_1702),
		"one into the next":               word(2, 0x1405),
		"one over the next":               word(2, 0x1408),
		"not by their places":             all(word(2, 0x4_0000_2801), word(3, 0x1403)),
		"the last two swapped":            all(word(4, 0x9_0000_5001), word(5, 0x6_0000_3c02)),
		"the same run twice":              word(3, 0x1403),
		"the same run behind":             word(6, 0x9_0000_5001),
		"a nought between":                all(word(5, 0), word(6, 0x9_0000_5001)),
		"a nought at first":               all(word(2, 0), word(3, 0x1403), word(4, 0x4_0000_2801), word(5, 0x6_0000_3c02), word(6, 0x9_0000_5001)),
		"a run at the end":                word(7, 0xb_0000_5a01),
		"a block twice":                   word(3, 0x4_0000_1501),
		"a block twice, the last of one":  word(5, 0x9_0000_3d01),
		"a block twice, the first of one": word(5, 0x9_0000_3c01),
		"behind the size":                 all(word(1, 576)),
		"partly behind the size":          word(1, 448),
		"at the end, behind the size":     all(word(1, 640), word(6, 0xa_0000_5a01)),
		"a mark without a number":         word(7, 1<<63),
		"a mark, and a block of noughts":  word(7, 1<<63+50),
		"a number without a mark":         word(7, 50),
		"a mark on a run":                 word(5, 1<<63+0x9_0000_5001),
		"all bits":                        word(2, math.MaxUint64),
		"all bits at the end":             word(7, math.MaxUint64),
	})
	s, _ := laidAt(t, n)
	s.Put(tx.Inode(6)+6, 0xb_0000_5102)
	wantRead(t, "one more run", s, 6, file(800, 20, 21, 22, 0, 40, 0, 60, 61, 0, 80, 0, 81, 82), nil)
	s.Put(tx.Inode(6)+7, 0)
	s.Put(tx.Inode(6)+2, 0xfd03)
	s.Put(tx.Inode(6)+6, 0)
	wantRead(t, "another run", s, 6, file(800, 253, 254, 255, 0, 40, 0, 60, 61, 0, 80), nil)
	s.Put(tx.Inode(6)+5, 0)
	wantRead(t, "a run fewer", s, 6, file(800, 253, 254, 255, 0, 40, 0, 60, 61), nil)
}

// P7.2: runs that stand in a block though they need none, or not where they should.
func TestWrongPlacesOfRuns(t *testing.T) {
	// Each run is one of these, in the inode or in the block 50.
	run := func(k int) uint64 { return uint64(2*k)<<32 + uint64(100+2*k)<<8 + 1 }
	for here := range 7 {
		for there := range 8 {
			if here+there > 7 {
				continue
			}
			s := tx.New(nil)
			s.Put(tx.Inode(6), 0x10102)
			s.Put(tx.Inode(6)+1, 832)
			for k := range here {
				s.Put(tx.Inode(6)+2+k, run(k))
			}
			for k := range there {
				s.Put(tx.Block(50)+k, run(here+k))
			}
			if there > 0 || here < 6 {
				s.Put(tx.Inode(6)+7, 1<<63+50)
			}
			switch {
			case here == 5 && there == 2:
				wantRead(t, "five and two", s, 6, apart(7), []int{50})
			case here == 6 && there == 0:
				wantRead(t, "six", s, 6, apart(6), nil)
			default:
				wantNone(t, strconv.Itoa(here)+" here, "+strconv.Itoa(there)+" there", s, 6)
			}
		}
	}
}

// P7.2: blocks of other runs that a file hasn't.
func TestWrongOthers(t *testing.T) {
	// The runs of apart are at the places 0, 2, 4 to 12, and are the blocks 100, 102, 104 to 112.
	wantDamaged(t, apart(7), map[string]damage{
		"noughts":                      all(inBlock(0, 0, 0), inBlock(0, 1, 0)),
		"one alone":                    inBlock(0, 1, 0),
		"the second alone":             inBlock(0, 0, 0),
		"swapped":                      all(inBlock(0, 0, 0xc_0000_7001), inBlock(0, 1, 0xa_0000_6e01)),
		"a nought between":             all(inBlock(0, 1, 0), inBlock(0, 2, 0xc_0000_7001)),
		"one place further":            all(inBlock(0, 0, 0), inBlock(0, 1, 0xa_0000_6e01), inBlock(0, 2, 0xc_0000_7001)),
		"ahead of those in the inode":  inBlock(0, 0, 0x1_0000_c801),
		"of the inode's last one":      inBlock(0, 0, 0x9_0000_6d01),
		"that one, longer":             all(inBlock(0, 0, 0x9_0000_6d01), inBlock(0, 1, 0xb_0000_c801), inBlock(0, 2, 0)),
		"over those in the inode":      inBlock(0, 0, 0x8_0000_c801),
		"the same once more":           inBlock(0, 2, 0xc_0000_7001),
		"something behind":             inBlock(0, 2, 1),
		"something at the end":         inBlock(0, 7, 1),
		"a bit at the end":             inBlock(0, 7, 1<<63),
		"over the last place":          inBlock(0, 1, 0xc_0000_7002),
		"a place below nought":         inBlock(0, 1, 0xffffffff_0000_7001),
		"of no block":                  inBlock(0, 1, 0xc_0001_0001),
		"of the block 0":               inBlock(0, 1, 0xc_0000_0001),
		"a block twice":                inBlock(0, 1, 0xc_0000_6401),
		"a block twice, both there":    inBlock(0, 1, 0xc_0000_6e01),
		"a mark there":                 inBlock(0, 1, 1<<63+0xc_0000_7001),
		"a block further":              inBlock(0, 2, 1<<63+50),
		"behind the size":              word(1, 768),
		"another block, of noughts":    word(7, 1<<63+50),
		"the block 0":                  word(7, 1<<63),
		"no block":                     word(7, 1<<63+256),
		"no block, a bit above":        word(7, 1<<63+1<<8+1),
		"no block, a bit far above":    word(7, 1<<63+1<<32+1),
		"no block, the bit below":      word(7, 1<<63+1<<62+1),
		"without a mark":               word(7, 1),
		"a mark ahead":                 all(word(6, 1<<63+1), word(7, 0)),
		"a nought in the inode":        word(6, 0),
		"the inode's first two as one": all(word(2, 0x6401), word(3, 0x1_0000_6501)),
		"all bits":                     word(7, math.MaxUint64),
	})
	s, _ := laidAt(t, apart(7))
	s.Put(tx.Block(255), s.Get(tx.Block(1)))
	s.Put(tx.Block(255)+1, s.Get(tx.Block(1)+1))
	s.Put(tx.Inode(6)+7, 1<<63+255)
	wantRead(t, "in another block", s, 6, apart(7), []int{255})
	s.Put(tx.Block(255)+1, 0xc_0000_ff01)
	wantRead(t, "another run there", s, 6, but(apart(7), func(n *api.Inode) { n.Blocks[12] = 255 }), []int{255})
	s.Put(tx.Block(255)+1, 0)
	s.Put(tx.Inode(6)+7, s.Get(tx.Block(255)))
	wantRead(t, "the sixth run in its place", s, 6, apart(6), nil)
	s.Put(tx.Inode(6)+7, 0)
	wantRead(t, "no other runs", s, 6, apart(5), nil)
}

// P7.2: the block of a number that is none isn't read from somewhere else, as from the words ahead of all, or the block 0.
func TestOthersOfNoBlock(t *testing.T) {
	for _, number := range []uint64{0, 256, 257, 1 << 8, 1<<16 + 1, 1 << 32, 1<<32 + 1, 1<<56 + 1, 1<<62 + 1, 1<<63 - 1, 1<<63 - 135, 1<<63 - 136} {
		s, own := laidAt(t, apart(9))
		for k := range 8 {
			w := s.Get(tx.Block(own[0]) + k)
			s.Put(k, w)
			s.Put(tx.Block(0)+k, w)
			s.Put(api.Words-8+k, w)
		}
		s.Put(tx.Inode(6)+7, 1<<63+number)
		wantNone(t, "no block", s, 6)
	}
}

// P7.2: sizes that a directory hasn't with these entries.
func TestWrongSizesOfDirs(t *testing.T) {
	for count := range 25 {
		n := dir(count/4, count/3, count-count/4-count/3)
		for size := range 40 {
			if size != count {
				wantDamaged(t, n, map[string]damage{"another size": word(1, uint64(size))})
			}
		}
		wantDamaged(t, n, map[string]damage{
			"bits above":      word(1, 1<<32+uint64(count)),
			"the highest bit": word(1, 1<<63+uint64(count)),
			"all bits":        word(1, math.MaxUint64),
			"a file's size":   word(1, 832),
		})
	}
}

// P7.2: first blocks that a directory's buckets haven't.
func TestWrongFirstBlocks(t *testing.T) {
	// Its own blocks: 1 and 2 of the bucket 0, none of the bucket 1, 3 of the bucket 2, 4 and 5 of the bucket 3.
	n := dir(4, 0, 3, 6)
	wantDamaged(t, n, map[string]damage{
		"no first bucket":              word(2, 0),
		"no last bucket":               word(5, 0),
		"the second block":             word(2, 2),
		"a bucket of the one ahead":    word(3, 1),
		"a bucket of the one behind":   word(3, 3),
		"a bucket of a block within":   word(3, 5),
		"a bucket of noughts":          word(3, 50),
		"noughts in place of a bucket": word(4, 50),
		"two buckets swapped":          all(word(2, 3), word(4, 1)),
		"a bucket in the wrong place":  all(word(3, 3), word(4, 0)),
		"two buckets of one":           word(4, 1),
		"a bucket of its last block":   word(5, 5),
		"no block":                     word(2, 256),
		"no block, a bit above":        word(2, 1<<32+1),
		"no block, the highest bit":    word(2, 1<<63+1),
		"no block, all bits":           word(3, math.MaxUint64),
		"a fifth bucket":               word(6, 1),
		"a fifth bucket of noughts":    word(6, 50),
		"the last word":                word(7, 1),
		"the last word, a mark":        word(7, 1<<63),
		"the last word, a mark, block": word(7, 1<<63+1),
		"the last word, all bits":      word(7, math.MaxUint64),
		"a bucket lost, with its size": all(word(4, 0), word(6, 3), word(1, 10)),
	})
	for k := range 6 {
		wantDamaged(t, dir(0), map[string]damage{"a block, no entries": word(2+k, 50), "all bits": word(2+k, math.MaxUint64), "a bit above": word(2+k, 1<<40)})
	}
	s, _ := laidAt(t, n)
	s.Put(tx.Inode(6)+4, 0)
	s.Put(tx.Inode(6)+1, 10)
	wantRead(t, "a bucket fewer, by the size too", s, 6, only(n, 4, 0, 0, 6), []int{1, 2, 4, 5})
}

// only is a directory that has just the first so many entries of each bucket of another one.
func only(n api.Inode, counts ...int) api.Inode {
	return but(n, func(n *api.Inode) {
		n.Entries = slices.DeleteFunc(n.Entries, func(x api.Entry) bool {
			counts[bucketOf(x.Name)]--
			return counts[bucketOf(x.Name)] < 0
		})
		n.Size = len(n.Entries)
	})
}

// P7.2: entries aren't read from somewhere else, as from the words ahead of all, where a number is no block's.
func TestEntriesOfNoBlock(t *testing.T) {
	for _, number := range []uint64{256, 257, 1 << 16, 1 << 32, 1<<32 + 1, 1<<56 + 1, 1 << 63, 1<<63 + 1, math.MaxUint64, math.MaxUint64 - 134, math.MaxUint64 - 135} {
		for bucket := range 4 {
			for shift := range 8 {
				var counts [4]int
				counts[bucket] = 4
				s, _ := laidAt(t, dir(counts[:]...))
				for k := range 16 {
					w := s.Get(tx.Block(2) + (k+shift)%8)
					s.Put(k, w)
					s.Put(api.Words-16+k, w)
				}
				s.Put(tx.Block(1), number)
				wantNone(t, "no next block", s, 6)
				s.Put(tx.Inode(6)+2+bucket, number)
				s.Put(tx.Inode(6)+1, 1)
				wantNone(t, "no first block", s, 6)
			}
		}
	}
}

// P7.2: numbers of next blocks that a bucket hasn't.
func TestWrongNextBlocks(t *testing.T) {
	// Its own blocks: 1, 2 and 3 of the bucket 0, 4 of the bucket 1.
	n := dir(8, 2)
	wantDamaged(t, n, map[string]damage{
		"cut short":                   inBlock(0, 0, 0),
		"cut short, later":            inBlock(1, 0, 0),
		"one left out":                inBlock(0, 0, 3),
		"on to the next bucket":       inBlock(2, 0, 4),
		"to the next bucket, early":   inBlock(1, 0, 4),
		"on to a block of noughts":    inBlock(2, 0, 50),
		"one such between":            all(inBlock(1, 0, 50), func(s *tx.Sheet, own []int) { s.Put(tx.Block(50), 3) }),
		"one such at first":           all(word(2, 50), func(s *tx.Sheet, own []int) { s.Put(tx.Block(50), 1) }),
		"no block":                    inBlock(0, 0, 256),
		"no block, a bit above":       inBlock(0, 0, 1<<32+2),
		"no block, the highest bit":   inBlock(0, 0, 1<<63+2),
		"no block, all bits":          inBlock(0, 0, math.MaxUint64),
		"no block behind the last":    inBlock(2, 0, 256),
		"the last one's highest bit":  inBlock(2, 0, 1<<63),
		"another bucket's, no block":  inBlock(3, 0, 257),
		"another bucket's, all again": inBlock(3, 0, 1),
	})
	s, _ := laidAt(t, n)
	for k := range 8 {
		s.Put(tx.Block(200)+k, s.Get(tx.Block(2)+k))
	}
	s.Put(tx.Block(1), 200)
	wantRead(t, "through another block", s, 6, n, []int{1, 200, 3, 4})

	s, _ = laidAt(t, n)
	s.Put(tx.Block(2), 0)
	s.Put(tx.Inode(6)+1, 8)
	wantRead(t, "cut short, by the size too", s, 6, only(n, 6, 2), []int{1, 2, 4})
}

// P7.2: a bucket's blocks that lead back to one of themselves, or on to another bucket's: it ends, and there is none.
func TestLeadingBack(t *testing.T) {
	for _, n := range []api.Inode{dir(1), dir(3), dir(4), dir(0, 24), dir(6, 6, 6, 6), dir(1, 1, 1, 21)} {
		_, own := laidAt(t, n)
		for j := range own {
			for k := range own {
				what := "from " + strconv.Itoa(own[j]) + " to " + strconv.Itoa(own[k])
				s, _ := laidAt(t, n)
				if s.Get(tx.Block(own[j])) == uint64(own[k]) {
					continue
				}
				s.Put(tx.Block(own[j]), uint64(own[k]))
				wantNone(t, what, s, 6)
				for size := range uint64(25) {
					s.Put(tx.Inode(6)+1, size)
					askModel(t, what, s, 6)
				}
			}
		}
	}
}

// P7.2: empty blocks that lead to themselves, or to one another, hold nothing, and end.
func TestEmptyBack(t *testing.T) {
	for _, n := range []api.Inode{dir(0), dir(0, 3)} {
		for k := range 4 {
			s, _ := laidAt(t, n)
			s.Put(tx.Inode(6)+2+k, 50)
			s.Put(tx.Block(50), 50)
			wantNone(t, "to itself", s, 6)
			s.Put(tx.Block(50), 51)
			s.Put(tx.Block(51), 50)
			wantNone(t, "to one another", s, 6)
			for b := 50; b < 255; b++ {
				s.Put(tx.Block(b), uint64(b+1))
			}
			wantNone(t, "to all others", s, 6)
			s.Put(tx.Block(255), 1)
			wantNone(t, "to all, and on", s, 6)
		}
	}
}

// P7.2: entries that a directory hasn't, and words behind the last one.
func TestWrongEntries(t *testing.T) {
	// Of the bucket 0: b, f, j, n in the blocks 1 and 2; of the bucket 3: a, e in the block 3.
	n := dirOf("b", "f", "j", "n", "a", "e")
	const a = 0x0100000000000061
	wantDamaged(t, n, map[string]damage{
		"no name":                   inBlock(0, 1, 0),
		"no second name":            inBlock(0, 3, 0),
		"no last name":              inBlock(1, 1, 0),
		"no last entry":             all(inBlock(1, 1, 0), inBlock(1, 2, 0)),
		"a point":                   inBlock(0, 1, 0x010000000000002e),
		"two points":                inBlock(0, 1, 0x0200000000002e2e),
		"a / in it":                 inBlock(0, 1, 0x0300000000622f61),
		"longer than its bytes":     inBlock(0, 1, 0x0200000000000061),
		"shorter than its bytes":    inBlock(0, 1, 0x0100000000006261),
		"too long":                  inBlock(0, 1, 0x0861616161616161),
		"of a bucket behind":        inBlock(0, 1, a),
		"of a bucket between":       inBlock(0, 1, a+2),
		"of the bucket ahead":       inBlock(2, 1, a+1+4*4),
		"swapped with a bucket's":   all(inBlock(0, 1, a), inBlock(2, 1, a+1)),
		"swapped with the next":     all(inBlock(0, 1, a+5), inBlock(0, 3, a+1)),
		"swapped with the other's":  all(inBlock(0, 5, a+13), inBlock(1, 1, a+9)),
		"equal":                     inBlock(0, 3, a+1),
		"equal to the other's":      inBlock(1, 1, a+1),
		"not rising":                inBlock(0, 1, a+17),
		"not rising at the end":     inBlock(2, 3, a-4*16),
		"the inode 32":              inBlock(0, 2, 32),
		"bits above":                inBlock(1, 2, 1<<32+1),
		"the highest bit":           inBlock(1, 2, 1<<63+1),
		"all bits":                  inBlock(1, 2, math.MaxUint64),
		"a name behind":             inBlock(1, 3, a+17),
		"an inode behind":           inBlock(1, 4, 1),
		"a name behind a nought":    inBlock(1, 5, a+17),
		"an inode behind a nought":  inBlock(1, 6, 1),
		"the last word":             inBlock(1, 7, 1),
		"the last word's top bit":   inBlock(1, 7, 1<<63),
		"the last word of a full":   inBlock(0, 7, 1),
		"the last word, a name":     inBlock(0, 7, a+17),
		"no inode's place":          all(inBlock(2, 3, 0), inBlock(2, 4, 0)),
		"one entry more":            all(inBlock(2, 5, a+8), inBlock(2, 6, 1)),
		"one more, of the other":    all(inBlock(2, 5, a+17), inBlock(2, 6, 1), word(1, 7)),
		"a hole, one entry further": all(inBlock(2, 3, 0), inBlock(2, 4, 0), inBlock(2, 5, a+4), inBlock(2, 6, 1)),
	})
	s, own := laidAt(t, n)
	s.Put(tx.Block(1)+1, 0x010000000000007e) // ~ is of the bucket 0, but behind all others
	wantNone(t, "a right name, not in order", s, 6)
	s.Put(tx.Block(1)+1, a+1)
	s.Put(tx.Block(2)+1, 0x010000000000007e)
	s.Put(tx.Block(2)+2, 31)
	other := dirOf("b", "f", "j", "~", "a", "e")
	other.Entries[5].Ino = 31
	wantRead(t, "another name, another inode", s, 6, other, own)
	s.Put(tx.Block(3)+5, a+8)
	s.Put(tx.Inode(6)+1, 7)
	other.Size = 7
	other.Entries = slices.Insert(other.Entries, 4, api.Entry{Name: "i"})
	wantRead(t, "one entry more, by the size too", s, 6, other, own)
}

// P7.2: more blocks than the entries need: three of a bucket in two blocks, four by two and two.
func TestLooseBlocks(t *testing.T) {
	for count := 2; count <= 9; count++ {
		n := dir(0, 0, count)
		s := tx.New(nil)
		for at, w := range laid(6, dir(0), nil) {
			s.Put(at, w)
		}
		s.Put(tx.Inode(6)+1, uint64(count))
		s.Put(tx.Inode(6)+4, 1)
		for k, x := range n.Entries { // two a block
			s.Put(tx.Block(1+k/2)+1+k%2*2, entryWord(x.Name))
			s.Put(tx.Block(1+k/2)+2+k%2*2, uint64(x.Ino))
			if k%2 == 0 && k > 0 {
				s.Put(tx.Block(k/2), uint64(1+k/2))
			}
		}
		if count == 2 {
			wantRead(t, "one block", s, 6, n, []int{1})
			continue
		}
		wantNone(t, "two a block", s, 6)
	}
}

// P7.2: a directory of more than MaxEntries entries is none, wherever they are.
func TestTooMany(t *testing.T) {
	for _, n := range []api.Inode{dir(25), dir(0, 0, 0, 27), dir(7, 6, 6, 6), dir(10, 10, 10, 10), dir(30)} {
		s := tx.New(nil)
		for at, w := range laid(6, n, upTo(blocksOf(n))) {
			s.Put(at, w)
		}
		for size := range uint64(48) {
			s.Put(tx.Inode(6)+1, size)
			wantNone(t, "too many", s, 6)
		}
	}
}

// P7.2: nothing is read where nothing was laid.
func TestReadNothing(t *testing.T) {
	for _, w := range []uint64{math.MaxUint64, 0x10101, 0x10201, 0x10102, 0x10202, 1, 2, 1 << 63, 1<<63 + 1, 0x0100000000000061} {
		s := tx.New(slices.Repeat([]uint64{w}, api.Words))
		for i := range 32 {
			wantNone(t, "the same word everywhere", s, i)
		}
	}
	for _, words := range [][]uint64{nil, using()} {
		s := tx.New(words)
		for i := range 32 {
			wantNone(t, "nothing", s, i)
		}
	}
}
