package check_test

import (
	"math"
	"slices"
	"strconv"
	"testing"

	"imago/api"
	"imago/inode"
	"imago/palloc"
	"imago/tree"
	"imago/tx"
)

// fault lets just one point not be so on the grove. No two faults of different points touch the same thing.
type fault struct {
	point int
	what  string
	do    func(t *testing.T, s *tx.Sheet)
}

// faults are the point's, under a name each.
func faults(point int, l map[string]func(t *testing.T, s *tx.Sheet)) []fault {
	var all []fault
	for what, do := range l {
		all = append(all, fault{point, what, do})
	}
	return all
}

// allFaults are those of all points.
func allFaults() []fault {
	return slices.Concat(
		faults(1, wordFaults()), faults(2, inodeFaults()), faults(3, leadFaults()), faults(4, linkFaults()),
		faults(5, reachFaults()), faults(6, blockFaults()), faults(7, tailFaults()),
	)
}

// word is a fault that puts one word.
func word(at int, w uint64) func(t *testing.T, s *tx.Sheet) {
	return func(_ *testing.T, s *tx.Sheet) { s.Put(at, w) }
}

func wordFaults() map[string]func(t *testing.T, s *tx.Sheet) {
	l := map[string]func(t *testing.T, s *tx.Sheet){
		"no magic":           word(0, 0),
		"magic and one":      word(0, api.Magic+1),
		"the target 0":       word(1, 0),
		"the target 3":       word(1, 3),
		"the cursor 33":      word(2, 33),
		"the cursor below 0": word(2, math.MaxUint64),
	}
	for _, at := range []int{3, 4, 5, 6, 7, 820, 821, 822, 823} {
		l["the word "+strconv.Itoa(at)] = word(at, 1)
	}
	return l
}

// inodeFaults spoil the inode 7, which is a file without blocks.
func inodeFaults() map[string]func(t *testing.T, s *tx.Sheet) {
	at := tx.Inode(7)
	return map[string]func(t *testing.T, s *tx.Sheet){
		"a tag's upper bits": func(_ *testing.T, s *tx.Sheet) { s.Put(at, s.Get(at)|1<<32) },
		"no format":          func(_ *testing.T, s *tx.Sheet) { s.Put(at, s.Get(at)&^0xff) },
		"the format 3":       func(_ *testing.T, s *tx.Sheet) { s.Put(at, s.Get(at)|3) },
		"no kind":            func(_ *testing.T, s *tx.Sheet) { s.Put(at, s.Get(at)&^0xff00) },
		"too long":           word(at+1, 833),
		"a block of none":    word(at+2, 256),
		"noughts but one":    func(_ *testing.T, s *tx.Sheet) { free(s, 7); s.Put(at+7, 1) },
	}
}

// entry is a fault that gives a directory one entry more.
func entry(in int, name string, ino int) func(t *testing.T, s *tx.Sheet) {
	return func(t *testing.T, s *tx.Sheet) {
		t.Helper()
		alter(t, s, in, func(n *api.Inode) { *n = tree.With(*n, api.Entry{Name: name, Ino: ino}) })
	}
}

func leadFaults() map[string]func(t *testing.T, s *tx.Sheet) {
	return map[string]func(t *testing.T, s *tx.Sheet){
		"an entry of a free inode, in the root":  entry(0, "free", 30),
		"an entry of a free inode, further down": entry(15, "free", 29),
		"two entries of free inodes": func(t *testing.T, s *tx.Sheet) {
			entry(15, "free", 29)(t, s)
			entry(15, "free2", 29)(t, s)
		},
	}
}

// links is a fault that gives an inode other links.
func links(i, links int) func(t *testing.T, s *tx.Sheet) {
	return func(t *testing.T, s *tx.Sheet) {
		t.Helper()
		alter(t, s, i, func(n *api.Inode) { n.Links = links })
	}
}

func linkFaults() map[string]func(t *testing.T, s *tx.Sheet) {
	return map[string]func(t *testing.T, s *tx.Sheet){
		"a file of three names, two links":     links(2, 2),
		"a file of three names, four links":    links(2, 4),
		"a file of three names, no links":      links(2, 0),
		"a file of three names, one link":      links(2, 1),
		"a file of three names, all links":     links(2, 65535),
		"a file of one name, no links":         links(12, 0),
		"a file of one name, two links":        links(12, 2),
		"a file of many names, one link fewer": links(13, 22),
		"a file of many names, one link more":  links(13, 24),
		"a directory, no links":                links(8, 0),
		"a directory, two links":               links(8, 2),
		"the last directory, two links":        links(15, 2),
		"the root, no links":                   links(0, 0),
		"the root, two links":                  links(0, 2),
		"the root, all links":                  links(0, 65535),
		"a name more, of a file":               entry(15, "more", 16),
		"a name more, of a directory":          entry(11, "more", 8),
		"two names of it in one directory":     entry(0, "more", 8),
		"a directory in itself, too":           entry(14, "more", 14),
		"a directory's way back":               entry(15, "more", 11),
		"the root in the root":                 entry(0, "root", 0),
		"the root further down":                entry(15, "root", 0),
		"a directory's two names, two links": func(t *testing.T, s *tx.Sheet) {
			entry(15, "more", 8)(t, s)
			links(8, 2)(t, s)
		},
		"the root in the root, two links": func(t *testing.T, s *tx.Sheet) {
			entry(0, "root", 0)(t, s)
			links(0, 2)(t, s)
		},
	}
}

// apart is a fault that plants inodes to which nothing leads from the root.
func apart(l map[int]api.Inode) func(t *testing.T, s *tx.Sheet) {
	return func(t *testing.T, s *tx.Sheet) {
		t.Helper()
		plant(t, s, mixes["in turns"], l)
	}
}

func reachFaults() map[string]func(t *testing.T, s *tx.Sheet) {
	return map[string]func(t *testing.T, s *tx.Sheet){
		"a directory in itself": apart(map[int]api.Inode{17: dir("a17")}),
		"a ring of two":         apart(map[int]api.Inode{17: dir("a18"), 18: dir("a17")}),
		"a ring of three":       apart(map[int]api.Inode{17: dir("a19"), 18: dir("a17"), 19: dir("a18")}),
		"a ring and its files": apart(map[int]api.Inode{
			17: dir("a18 b20"), 18: dir("a17 b20 c21"), 20: file(2, 64, 150, 0), 21: file(1, 0),
		}),
		"two rings": apart(map[int]api.Inode{17: dir("a18"), 18: dir("a17"), 19: dir("a19 b21"), 21: dir("")}),
	}
}

// swapped is a fault that lets a file have another block in the place of one that it had, which nobody has then.
func swapped(i, place int, other func(t *testing.T, s *tx.Sheet) int) func(t *testing.T, s *tx.Sheet) {
	return func(t *testing.T, s *tx.Sheet) {
		t.Helper()
		b := other(t, s)
		alter(t, s, i, func(n *api.Inode) {
			palloc.Set(s, n.Blocks[place], false)
			n.Blocks[place] = b
		})
		palloc.Set(s, b, true)
	}
}

// own is a block that an inode's format takes.
func own(i, k int) func(t *testing.T, s *tx.Sheet) int {
	return func(t *testing.T, s *tx.Sheet) int {
		t.Helper()
		return ownOf(t, s, i)[k]
	}
}

func numbered(b int) func(t *testing.T, s *tx.Sheet) int {
	return func(*testing.T, *tx.Sheet) int { return b }
}

// ownInItself lets the first block of the inode 3 be the one in which its format has its numbers.
func ownInItself(t *testing.T, s *tx.Sheet) {
	t.Helper()
	b, n := ownOf(t, s, 3)[0], get(t, s, 3)
	w := uint64(b)
	if n.Format == api.New {
		w = uint64(b)<<8 | 1 // a run at the place 0
	}
	palloc.Set(s, n.Blocks[0], false)
	s.Put(tx.Inode(3)+2, w)
	if n := get(t, s, 3); n.Blocks[0] != b {
		t.Fatalf("the block %d isn't the first of %v", b, n.Blocks)
	}
}

func blockFaults() map[string]func(t *testing.T, s *tx.Sheet) {
	bit := func(block func(t *testing.T, s *tx.Sheet) int, used bool) func(t *testing.T, s *tx.Sheet) {
		return func(t *testing.T, s *tx.Sheet) {
			t.Helper()
			palloc.Set(s, block(t, s), used)
		}
	}
	return map[string]func(t *testing.T, s *tx.Sheet){
		"the block 0 used":              func(_ *testing.T, s *tx.Sheet) { s.Put(816, s.Get(816)|1) },
		"used in none":                  bit(numbered(180), true),
		"the last but one used in none": bit(numbered(254), true),
		"a file's not used":             bit(numbered(72), false),
		"the last one not used":         bit(numbered(255), false),
		"the root's own not used":       bit(own(0, 0), false),
		"entries not used":              bit(own(10, 3), false),
		"numbers not used":              bit(own(3, 0), false),
		"in two files":                  swapped(13, 0, numbered(80)),
		"in two files, further on":      swapped(5, 1, numbered(208)),
		"in two files, and not used": func(t *testing.T, s *tx.Sheet) {
			swapped(13, 0, numbered(80))(t, s)
			palloc.Set(s, 80, false)
		},
		"in three files": func(t *testing.T, s *tx.Sheet) {
			swapped(13, 0, numbered(80))(t, s)
			swapped(4, 0, numbered(80))(t, s)
		},
		"a file's are entries":            swapped(4, 0, own(10, 0)),
		"a file's are the root's entries": swapped(13, 0, own(0, 1)),
		"a file's are another's numbers":  swapped(4, 5, own(3, 0)),
		"a file's are its own numbers":    ownInItself,
	}
}

// tail is a fault that puts a byte into a block.
func tail(b, at int, c byte) func(t *testing.T, s *tx.Sheet) {
	return func(_ *testing.T, s *tx.Sheet) { setByte(s, b, at, c) }
}

func tailFaults() map[string]func(t *testing.T, s *tx.Sheet) {
	return map[string]func(t *testing.T, s *tx.Sheet){
		"the byte at the size":          tail(61, 36, 1),
		"a word's last byte":            tail(61, 39, 0x80),
		"the next word":                 tail(61, 40, 1),
		"the block's last byte":         tail(61, 63, 0xff),
		"behind one byte":               tail(255, 1, 1),
		"the last byte behind one byte": tail(255, 63, 1),
		"behind a block that is listed": tail(95, 9, 2),
		"all but the last byte":         tail(213, 63, 1),
	}
}

// P10.1: of each point a sheet of which just that point isn't so.
func TestOnePoint(t *testing.T) {
	for mix, format := range mixes {
		for _, f := range allFaults() {
			s := grove(t, format)
			f.do(t, s)
			wantWrong(t, f.what+", "+mix, s, f.point)
		}
	}
}

// P10.1: of each point and a later one sheets of which both aren't so: the first is told.
func TestTwoPoints(t *testing.T) {
	l := allFaults()
	for k, f := range l {
		for _, g := range l[k:] {
			if f.point == g.point {
				continue
			}
			s := grove(t, mixes["in turns"])
			f.do(t, s)
			g.do(t, s)
			wantWrong(t, f.what+", "+g.what, s, f.point, g.point)
		}
	}
}

// P10.1: all points from each one on: that one is told.
func TestAllPointsFrom(t *testing.T) {
	var one [8]fault
	for _, f := range allFaults() {
		if one[f.point].do == nil || f.what < one[f.point].what {
			one[f.point] = f
		}
	}
	for mix, format := range mixes {
		for from := 1; from <= 7; from++ {
			s := grove(t, format)
			var want []int
			for point := from; point <= 7; point++ {
				one[point].do(t, s)
				want = append(want, point)
			}
			wantWrong(t, mix+" from "+strconv.Itoa(from), s, want...)
		}
	}
}

// P10.1: the words ahead of the journal, and those between bits and inodes: each bit, each edge, and words that are too great.
func TestWords(t *testing.T) {
	s := grove(t, mixes["in turns"])
	for _, at := range []int{0, 1, 2, 3, 4, 5, 6, 7, 820, 821, 822, 823} {
		was := s.Get(at)
		l := slices.Clone(great)
		for bit := range 64 {
			l = append(l, 1<<bit, was^1<<bit)
		}
		for w := range uint64(66) {
			l = append(l, w)
		}
		for _, w := range l {
			s.Put(at, w)
			if w == was || at == 1 && (w == 1 || w == 2) || at == 2 && w <= 32 {
				wantWrong(t, "a word that may be", s)
			} else {
				wantWrong(t, strconv.Itoa(at)+" is "+strconv.FormatUint(w, 16), s, 1)
			}
		}
		s.Put(at, was)
	}
}

// P10.1: the words on both sides of those that must be 0 are asked for by no point, or by another one.
func TestWordsBeside(t *testing.T) {
	s := grove(t, mixes["new"])
	s.Put(8, math.MaxUint64)
	s.Put(815, math.MaxUint64)
	wantWrong(t, "the journal's", s)
	s.Put(819, s.Get(819)^1)
	wantWrong(t, "the last of the bits", s, 6)
	s.Put(824, s.Get(824)|1<<63)
	wantTold(t, "the first of the inodes", s, 2)
}

// P10.1: sheets on which little stands.
func TestLittle(t *testing.T) {
	wantWrong(t, "noughts", tx.New(nil), 1, 3)
	s := ground()
	wantWrong(t, "all inodes free", s, 3)
	s = ground()
	plant(t, s, mixes["old"], map[int]api.Inode{0: file(0, 0)})
	wantWrong(t, "the root a file", s, 3, 4)
	s = ground()
	plant(t, s, mixes["new"], map[int]api.Inode{0: file(1, 10, 9)})
	wantWrong(t, "the root a file of bytes", s, 3, 4)
	s = ground()
	plant(t, s, mixes["new"], map[int]api.Inode{0: file(1, 10, 9), 1: dir("a0 b1")})
	wantWrong(t, "the root a file that has a name", s, 3, 5)
	s = ground()
	plant(t, s, mixes["old"], map[int]api.Inode{1: dir("a1")})
	wantWrong(t, "the root free, others there", s, 3, 5)
	s = ground()
	s.Put(tx.Inode(0), 0x10203)
	wantWrong(t, "the root can't be got", s, 2, 3)
	s = ground()
	s.Put(tx.Inode(31)+7, 1)
	wantWrong(t, "one that can't be got alone", s, 2, 3, 5)
}

// P10.1: the root of the grove free, a file, or one that can't be got: the point is told, whatever else isn't so.
func TestRootGone(t *testing.T) {
	for mix, format := range mixes {
		s := grove(t, format)
		palloc.Give(s, ownOf(t, s, 0))
		free(s, 0)
		wantWrong(t, "free, "+mix, s, 3, 4, 5)
		put(t, s, 0, api.Inode{Format: format(0), Kind: api.File})
		wantWrong(t, "a file, "+mix, s, 3, 4, 5)
		s.Put(tx.Inode(0), 3)
		wantWrong(t, "corrupt, "+mix, s, 2, 3, 4, 5)
	}
}

// P10.1: inodes that can't be got: what they had is nobody's.
func TestNotGot(t *testing.T) {
	for i, want := range map[int][]int{1: {2, 4, 5, 6}, 3: {2, 6}, 7: {2}, 8: {2}, 9: {2, 6}, 10: {2, 4, 5, 6}, 12: {2}, 15: {2}, 30: {2, 5}, 31: {2, 6}} {
		s := grove(t, mixes["in other"])
		s.Put(tx.Inode(i), s.Get(tx.Inode(i))|1<<40)
		wantWrong(t, "the inode "+strconv.Itoa(i), s, want...)
	}
	s := grove(t, mixes["old"])
	s.Put(tx.Inode(5)+3, s.Get(tx.Inode(5)+2))
	wantWrong(t, "one block twice in one", s, 2, 6)
}

// P10.1: directories and files to which no entry leads, though nothing else is wrong with them.
func TestNoEntry(t *testing.T) {
	for what, n := range map[string]api.Inode{
		"a directory":        dir(""),
		"one of no links":    {Kind: api.Dir},
		"one that has more":  dir("a21"),
		"a file":             file(1, 0),
		"a file of no links": file(0, 0),
		"a file of bytes":    file(0, 64, 150),
	} {
		s := grove(t, mixes["new"])
		l := map[int]api.Inode{20: n}
		if len(n.Entries) > 0 {
			l[21] = dir("")
		}
		plant(t, s, mixes["in turns"], l)
		wantWrong(t, what, s, 4, 5)
	}
}

// P10.1: what isn't so of inodes that aren't reached is told as of others, ahead of their not being reached or behind it.
func TestInRings(t *testing.T) {
	for what, x := range map[string]struct {
		l    map[int]api.Inode
		want []int
	}{
		"leads to a free one":    {map[int]api.Inode{17: dir("a17 b22")}, []int{3, 5}},
		"leads to the root":      {map[int]api.Inode{17: dir("a17 b0")}, []int{4, 5}},
		"leads into the grove":   {map[int]api.Inode{17: dir("a17 b8")}, []int{4, 5}},
		"leads to a file there":  {map[int]api.Inode{17: dir("a17 b16")}, []int{4, 5}},
		"has two of one":         {map[int]api.Inode{17: dir("a17 b17")}, []int{4, 5}},
		"has a file of no links": {map[int]api.Inode{17: dir("a17 b18"), 18: file(0, 0)}, []int{4, 5}},
		"has a tail":             {map[int]api.Inode{17: dir("a17 b18"), 18: file(1, 1)}, []int{5}},
	} {
		s := grove(t, mixes["old"])
		plant(t, s, mixes["in turns"], x.l)
		wantWrong(t, "a ring that "+what, s, x.want...)
	}
	s := grove(t, mixes["old"])
	plant(t, s, mixes["new"], map[int]api.Inode{17: dir("a17 b18"), 18: file(1, 1, 150)})
	wantWrong(t, "a ring with a file", s, 5)
	setByte(s, 150, 1, 1)
	wantWrong(t, "a ring with a file's tail", s, 5, 7)
	palloc.Set(s, 150, false)
	wantWrong(t, "a ring with a file's tail and block", s, 5, 6, 7)
}

// P10.1: each block of the grove not used, each other one used.
func TestEachBlock(t *testing.T) {
	for mix, format := range mixes {
		s := grove(t, format)
		for b := 1; b < 256; b++ {
			was := palloc.Used(s, b)
			palloc.Set(s, b, !was)
			wantWrong(t, "the block "+strconv.Itoa(b)+", "+mix, s, 6)
			palloc.Set(s, b, was)
		}
	}
}

// P10.1: one file of each size from nothing to all blocks: each byte behind the size up to the block's end must be 0, no other one.
func TestTails(t *testing.T) {
	for size := range 833 {
		for _, format := range formats {
			s := ground()
			n := file(1, size)
			for k := range (size + 63) / 64 {
				n.Blocks[k] = 200 - 3*k
			}
			plant(t, s, func(int) int { return format }, map[int]api.Inode{0: dir("a1"), 1: n})
			wantTold(t, "a file of size "+strconv.Itoa(size), s, 0)
			if size == 0 {
				continue
			}
			last := n.Blocks[(size-1)/64]
			for at := range 64 {
				was := s.Get(wordAt(last, at))
				setByte(s, last, at, 1<<(at%8))
				want := 0
				if at > (size-1)%64 {
					want = 7
				}
				wantTold(t, "size "+strconv.Itoa(size)+", byte "+strconv.Itoa(at), s, want)
				s.Put(wordAt(last, at), was)
			}
		}
	}
}

// P10.1: each bit of the bytes behind a size.
func TestTailBits(t *testing.T) {
	s := ground()
	plant(t, s, mixes["old"], map[int]api.Inode{0: dir("a1"), 1: file(1, 83, 9, 8)})
	for at := range 64 {
		for bit := range 8 {
			was := s.Get(wordAt(8, at))
			setByte(s, 8, at, 1<<bit)
			want := []int{7}
			if at < 19 {
				want = nil
			}
			wantWrong(t, "the byte "+strconv.Itoa(at), s, want...)
			s.Put(wordAt(8, at), was)
		}
	}
}

// P10.1: files whose last block is a hole, or isn't there: whatever stands in blocks that aren't theirs, the block 0 too.
func TestTailsOfHoles(t *testing.T) {
	for _, format := range formats {
		for what, n := range map[string]api.Inode{
			"one long hole":        file(1, 700),
			"one byte":             file(1, 1),
			"a block ahead":        file(1, 65, 9),
			"the last of all":      file(1, 831, 9, 10, 0, 0, 0, 11, 12, 13, 14, 15, 16, 17),
			"whole blocks":         file(1, 128, 9, 10),
			"whole, the last none": file(1, 128, 9),
			"all":                  file(1, 832, 9, 0, 10, 0, 11, 0, 12, 0, 13, 0, 14, 0, 15),
			"nothing":              file(1, 0),
		} {
			s := ground()
			plant(t, s, func(int) int { return format }, map[int]api.Inode{0: dir("a1"), 1: n})
			_, numbers, _ := inode.Get(s, 1)
			kept := slices.Concat(inode.All(s, 0), numbers)
			for at := api.BlocksAt; at < api.Words; at++ {
				if !slices.Contains(kept, (at-api.BlocksAt)/8) {
					s.Put(at, math.MaxUint64)
				}
			}
			wantWrong(t, what, s)
		}
	}
}
