package fmt1_test

import (
	"math"
	"slices"
	"strconv"
	"testing"

	"imago/api"
	"imago/fmt1"
	"imago/tx"
)

// noInodes are numbers that are no inode's; some would be one's, if bits of them were lost.
var noInodes = []int{math.MinInt, math.MinInt + 5, -1 << 32, -1<<32 + 5, -33, -32, -1, 32, 33, 64, 256, 824, 1 << 32, 1<<32 + 5, math.MaxInt}

// names are 30 good ones, rising; in another order than by their lengths or their words.
var names = []string{
	"!", "!!", "...", "..a", ".a", "0", "00", "1", "10", "A", "Ab", "B", "Z9", "_", "a", "a.", "a0", "aZ", "aa", "abcdefg",
	"ac", "b", "ba", "c", "zz", "zzzzzzz", "{", "|", "~", "~~~~~~~",
}

type numbers = [api.MaxBlocks]int

// file is an old file of such a size, and such blocks from its first one on.
func file(size int, blocks ...int) api.Inode {
	n := api.Inode{Format: api.Old, Kind: api.File, Links: 1, Size: size}
	copy(n.Blocks[:], blocks)
	return n
}

// dir is an old directory of so many entries.
func dir(count int) api.Inode {
	n := api.Inode{Format: api.Old, Kind: api.Dir, Links: 1, Size: count}
	for k := range count {
		n.Entries = append(n.Entries, api.Entry{Name: names[k], Ino: (k*7 + 3) % 32})
	}
	return n
}

// dirOf is an old directory of just these names.
func dirOf(l ...string) api.Inode {
	n := api.Inode{Format: api.Old, Kind: api.Dir, Links: 1, Size: len(l)}
	for _, name := range l {
		n.Entries = append(n.Entries, api.Entry{Name: name, Ino: 1})
	}
	return n
}

// but is an inode, altered.
func but(n api.Inode, alter func(n *api.Inode)) api.Inode {
	n.Entries = slices.Clone(n.Entries)
	alter(&n)
	return n
}

// same holds two inodes against each other; a list of no entries may be nil or empty.
func same(a, b api.Inode) bool {
	return a.Format == b.Format && a.Kind == b.Kind && a.Links == b.Links && a.Size == b.Size &&
		a.Blocks == b.Blocks && slices.Equal(a.Entries, b.Entries)
}

func wantRight(t *testing.T, what string, n api.Inode, want bool) {
	t.Helper()
	if got := fmt1.Right(n); got != want {
		t.Errorf("%s: right: %v, want %v, of %v", what, got, want, n)
	}
}

func wantLay(t *testing.T, what string, s *tx.Sheet, i int, n api.Inode, want api.Errno) {
	t.Helper()
	if got := fmt1.Lay(s, i, n); got != want {
		t.Errorf("%s: lay at %d: %v, want %v, of %v", what, i, got, want, n)
	}
}

func wantRead(t *testing.T, what string, s *tx.Sheet, i int, n api.Inode, own []int) {
	t.Helper()
	got, gotOwn, ok := fmt1.Read(s, i)
	if !ok || !same(got, n) || !slices.Equal(gotOwn, own) {
		t.Errorf("%s: read at %d: %v, %v, %v, want %v, %v", what, i, got, gotOwn, ok, n, own)
	}
}

// wantNone asks that nothing is read, and nothing told beside the false.
func wantNone(t *testing.T, what string, s *tx.Sheet, i int) {
	t.Helper()
	got, own, ok := fmt1.Read(s, i)
	if ok || !same(got, api.Inode{}) || len(own) != 0 {
		t.Errorf("%s: read at %d: %v, %v, %v, want nothing", what, i, got, own, ok)
	}
}

// wantSheet asks for all words of a sheet, and tells of the first one that is another.
func wantSheet(t *testing.T, what string, s *tx.Sheet, want []uint64) {
	t.Helper()
	for i, w := range s.Words() {
		if w != want[i] {
			t.Errorf("%s: the word %d is %x, want %x", what, i, w, want[i])
			return
		}
	}
}

// wantUntouched asks that a deed puts nothing, not even what is there already.
func wantUntouched(t *testing.T, what string, s *tx.Sheet, deed func()) {
	t.Helper()
	mark, words := s.Mark(), s.Words()
	deed()
	if s.Mark() != mark {
		t.Errorf("%s: %d puts", what, s.Mark()-mark)
	}
	wantSheet(t, what, s, words)
}

// using are words none of which is 0, but for the four of the bits, by which just these blocks are used.
func using(blocks ...int) []uint64 {
	l := make([]uint64, api.Words)
	for i := range l {
		l[i] = uint64(i)*0x9e3779b97f4a7c15 | 1
	}
	clear(l[816:820])
	for _, b := range blocks {
		l[816+b/64] |= uint64(math.Pow(2, float64(b%64)))
	}
	return l
}

// butFree are all blocks, but these.
func butFree(free ...int) []int {
	var l []int
	for b := range 256 {
		if !slices.Contains(free, b) {
			l = append(l, b)
		}
	}
	return l
}

// P6.1: the format, the kind and the links of both kinds.
func TestRightTag(t *testing.T) {
	for _, n := range []api.Inode{file(0), file(65, 0, 255), dir(0), dir(7)} {
		for _, x := range []int{math.MinInt, -255, -1, 0, 1, 2, 3, 4, 255, 256, 257, 258, 1<<32 + 1, 1<<32 + 2, math.MaxInt} {
			wantRight(t, "format", but(n, func(n *api.Inode) { n.Format = x }), x == 1 || x == 2)
			other := but(n, func(n *api.Inode) { n.Kind = x })
			wantRight(t, "kind", other, x == n.Kind || n.Size == 0 && (x == 1 || x == 2))
		}
		for _, x := range []int{math.MinInt, math.MinInt + 1, -65535, -1, 0, 1, 2, 255, 256, 65534, 65535, 65536, 65537, 1 << 32, 1<<32 + 1, math.MaxInt} {
			wantRight(t, "links", but(n, func(n *api.Inode) { n.Links = x }), x >= 0 && x <= 65535)
		}
	}
	wantRight(t, "nothing", api.Inode{}, false)
	wantRight(t, "a file's size of a directory", but(file(64), func(n *api.Inode) { n.Kind = api.Dir }), false)
	wantRight(t, "a directory's entries of a file", but(dir(5), func(n *api.Inode) { n.Kind = api.File }), false)
}

// P6.1: a file's size, from 0 to 64 times MaxBlocks; without blocks, all of it is holes.
func TestRightSize(t *testing.T) {
	for _, x := range []int{0, 1, 63, 64, 65, 320, 321, 831, 832} {
		wantRight(t, "size", file(x), true)
	}
	for _, x := range []int{-1, -64, -832, math.MinInt, math.MinInt + 64, 833, 896, 1 << 32, 1<<32 + 1, 1 << 62, math.MaxInt - 63, math.MaxInt} {
		wantRight(t, "size", file(x), false)
		wantRight(t, "size, with a block", file(x, 1), false)
	}
}

// P6.1: of each place and each size: a block may be there just if it begins ahead of the size.
func TestRightBlockAtSize(t *testing.T) {
	for k := range api.MaxBlocks {
		for size := 0; size <= 832; size++ {
			n := file(size)
			n.Blocks[k] = 9
			wantRight(t, "a block", n, 64*k < size)
		}
	}
}

// P6.1: a file's blocks are from 0 to 255, wherever they stand.
func TestRightNumbers(t *testing.T) {
	for k := range api.MaxBlocks {
		n := file(832, 20, 21, 22, 23, 24, 25, 26, 27, 28, 29, 30, 31, 32)
		wantRight(t, "all blocks", n, true)
		for _, b := range []int{0, 1, 2, 127, 128, 254, 255} {
			n.Blocks[k] = b
			wantRight(t, "a number", n, true)
		}
		for _, b := range []int{math.MinInt, math.MinInt + 9, -1 << 32, -1<<32 + 9, -256, -255, -9, -2, -1, 256, 257, 265, 512, 1 << 32, 1<<32 + 9, math.MaxInt} {
			n.Blocks[k] = b
			wantRight(t, "no number", n, false)
			only := file(832)
			only.Blocks[k] = b
			wantRight(t, "no number, alone", only, false)
		}
	}
}

// P6.1: no block stands twice, wherever the two are; 0 may.
func TestRightTwice(t *testing.T) {
	for a := range api.MaxBlocks {
		for b := range a {
			for _, x := range []int{1, 64, 255} {
				n := file(832, 40, 41, 42, 43, 44, 45, 46, 47, 48, 49, 50, 51, 52)
				n.Blocks[a], n.Blocks[b] = x, x
				wantRight(t, "twice", n, false)
				n = file(832)
				n.Blocks[a], n.Blocks[b] = x, x
				wantRight(t, "twice, the others 0", n, false)
				n.Blocks[b] = 0
				wantRight(t, "once, the others 0", n, true)
			}
		}
	}
}

// P6.1: a file has no entries; an empty list is none.
func TestRightFileWithEntries(t *testing.T) {
	n := file(1, 5)
	n.Entries = []api.Entry{}
	wantRight(t, "an empty list", n, true)
	n.Entries = []api.Entry{{Name: "a", Ino: 1}}
	wantRight(t, "an entry", n, false)
	n.Entries = []api.Entry{{}}
	wantRight(t, "an entry of nothing", n, false)
	n = file(0)
	n.Entries = make([]api.Entry, 1)[:0]
	wantRight(t, "no entries, with room", n, true)
}

// P6.1: how many entries a directory may have; its size is how many they are.
func TestRightCount(t *testing.T) {
	for count := range 31 {
		n := dir(count)
		wantRight(t, "so many", n, count <= 24)
		for _, size := range []int{math.MinInt, -1, 0, 1, count - 1, count, count + 1, 24, 25, 1<<32 + count, math.MaxInt} {
			n.Size = size
			wantRight(t, "size", n, size == count && count <= 24)
		}
	}
	n := dir(0)
	n.Entries = []api.Entry{}
	wantRight(t, "an empty list", n, true)
	wantRight(t, "very many", but(dir(0), func(n *api.Inode) { n.Entries, n.Size = make([]api.Entry, 1<<16), 1<<16 }), false)
}

// P6.1: a directory's blocks are all 0, whatever its size is.
func TestRightDirWithBlocks(t *testing.T) {
	for _, count := range []int{0, 1, 5, 24} {
		for k := range api.MaxBlocks {
			for _, b := range []int{-1, 1, 7, 255, 256, 1 << 32} {
				n := dir(count)
				n.Blocks[k] = b
				wantRight(t, "a block", n, false)
			}
		}
	}
}

// P6.1: names are good, and rise, byte by byte.
func TestRightNames(t *testing.T) {
	right := [][]string{
		nil, {"a"}, {"!"}, {"~"}, {"..."}, {"abcdefg"}, {"~~~~~~~"}, {"a", "b"}, {"a", "aa"}, {"a", "aa", "ab", "b"},
		{"Z", "a"}, {"10", "2"}, {"...", "0"}, {"abcdefg", "abcdefh"}, {"abcdefg", "b"}, {"!", "~"},
	}
	for _, l := range right {
		wantRight(t, "names", dirOf(l...), true)
	}
	wrong := [][]string{
		{""}, {"."}, {".."}, {"/"}, {"a/b"}, {"abcdefgh"}, {" "}, {"a "}, {"\x00"}, {"a\x00"}, {"\x7f"}, {"\x80"}, {"é"},
		{"a", "a"}, {"b", "a"}, {"aa", "a"}, {"a", "Z"}, {"2", "10"}, {"b", "abcdefg"},
		{"a", "b", "b"}, {"a", "c", "b"}, {"a", "b", "a"}, {"a", "b", "c", "d", "d"}, {"a", "b", "c", "d", "c"},
		{"a", ""}, {"", "a"}, {".", "a"}, {"..", "a"}, {"a", "b/"}, {"a", "a\x00"}, {"a", "abcdefgh", "b"}, {"a", "b", "é"},
	}
	for _, l := range wrong {
		wantRight(t, "names", dirOf(l...), false)
	}
}

// P6.1: each entry of a long directory is asked: that it is good, and that it rises.
func TestRightEachName(t *testing.T) {
	for k := range 24 {
		for _, name := range []string{"", ".", "..", "a/b", "abcdefgh", "~~~~~~~~", "a\x7f"} {
			wantRight(t, "not good", but(dir(24), func(n *api.Inode) { n.Entries[k].Name = name }), false)
		}
		for j := range k {
			wantRight(t, "there already", but(dir(24), func(n *api.Inode) { n.Entries[k].Name = names[j] }), false)
			swapped := but(dir(24), func(n *api.Inode) { n.Entries[k], n.Entries[j] = n.Entries[j], n.Entries[k] })
			wantRight(t, "swapped", swapped, false)
		}
	}
}

// P6.1: the inodes of entries are from 0 to 31; several may be the same.
func TestRightInodes(t *testing.T) {
	for k := range 24 {
		for _, x := range []int{0, 1, 15, 30, 31} {
			wantRight(t, "an inode", but(dir(24), func(n *api.Inode) { n.Entries[k].Ino = x }), true)
		}
		for _, x := range noInodes {
			wantRight(t, "no inode", but(dir(24), func(n *api.Inode) { n.Entries[k].Ino = x }), false)
		}
	}
}

// P6.2: the words of a file of six blocks, one by one, in the places that the document names.
func TestWordsOfFile(t *testing.T) {
	s := tx.New(using(butFree(77, 200)...))
	n := file(322, 9, 0, 255, 1, 8, 30)
	n.Links = 65535
	wantLay(t, "a file", s, 31, n, api.OK)
	l := using(append(butFree(77, 200), 77)...)
	copy(l[824+8*31:], []uint64{0xffff0101, 322, 9, 0, 255, 1, 8, 77})
	copy(l[1080+8*77:], []uint64{30, 0, 0, 0, 0, 0, 0, 0})
	wantSheet(t, "a file", s, l)
	wantRead(t, "a file", s, 31, n, []int{77})
}

// P6.2: the words of a directory of 22 entries, six blocks and a list; the list comes last.
func TestWordsOfDir(t *testing.T) {
	s := tx.New(using(butFree(3, 4, 63, 64, 100, 128, 250, 255)...))
	n := dir(22)
	n.Links, n.Entries[0], n.Entries[21] = 2, api.Entry{Name: "!", Ino: 31}, api.Entry{Name: "b", Ino: 0}
	wantLay(t, "a directory", s, 0, n, api.OK)
	l := using(butFree(255)...)
	copy(l[824:], []uint64{0x20201, 22, 3, 4, 63, 64, 100, 250})
	copy(l[1080+8*250:], []uint64{128, 0, 0, 0, 0, 0, 0, 0})
	copy(l[1080+8*3:], []uint64{0x0100000000000021, 31, 0x0200000000002121, 10, 0x03000000002e2e2e, 17, 0x0300000000612e2e, 24})
	copy(l[1080+8*128:], []uint64{0x0200000000006361, 15, 0x0100000000000062, 0, 0, 0, 0, 0})
	got := s.Words()
	for _, b := range []int{4, 63, 64, 100} { // of these the first word is asked below, all by the model
		copy(l[1080+8*b:1080+8*b+8], got[1080+8*b:])
	}
	wantSheet(t, "a directory", s, l)
	if got[1080+8*4] != 0x020000000000612e {
		t.Errorf("the first entry of the second block is %x", got[1080+8*4])
	}
	wantRead(t, "a directory", s, 0, n, []int{3, 4, 63, 64, 100, 128, 250})
}

// P6.2: which blocks are taken, of files: a list just where one of the blocks 5 to 12 isn't 0.
func TestTakenOfFiles(t *testing.T) {
	cases := map[string]struct {
		n   api.Inode
		own []int
	}{
		"empty":                   {file(0), nil},
		"one byte":                {file(1, 9), nil},
		"a hole":                  {file(1), nil},
		"five blocks":             {file(320, 9, 8, 7, 6, 5), nil},
		"six blocks":              {file(321, 9, 8, 7, 6, 5, 10), []int{1}},
		"six, the sixth a hole":   {file(321, 9, 8, 7, 6, 5), nil},
		"six, but the sixth":      {file(384, 0, 0, 0, 0, 0, 10), []int{1}},
		"all blocks":              {file(832, 2, 3, 4, 5, 6, 7, 8, 9, 10, 11, 12, 13, 255), []int{1}},
		"all holes":               {file(832), nil},
		"but the last a hole":     {file(832, 0, 0, 0, 0, 0, 0, 0, 0, 0, 0, 0, 0, 255), []int{1}},
		"each second one":         {file(832, 2, 0, 4, 0, 6, 0, 8, 0, 10, 0, 12, 0, 14), []int{1}},
		"each second of the five": {file(832, 0, 2, 0, 4), nil},
		"holes at the end":        {file(832, 2, 3, 4, 5, 6, 0, 8), []int{1}},
	}
	for name, c := range cases {
		for _, i := range []int{0, 1, 17, 31} {
			s := tx.New(using())
			wantLay(t, name, s, i, c.n, api.OK)
			wantRead(t, name, s, i, c.n, c.own)
			wantSheet(t, name, s, over(emptied(using(c.own...), c.own), laid(i, c.n, c.own)))
		}
	}
}

// P6.2: which blocks are taken, of directories of each length, and what is in them.
func TestTakenOfDirs(t *testing.T) {
	owns := map[int][]int{
		0: nil, 1: {1}, 4: {1}, 5: {1, 2}, 8: {1, 2}, 9: {1, 2, 3}, 12: {1, 2, 3}, 16: {1, 2, 3, 4}, 17: {1, 2, 3, 4, 5},
		20: {1, 2, 3, 4, 5}, 21: {1, 2, 3, 4, 5, 6, 7}, 23: {1, 2, 3, 4, 5, 6, 7}, 24: {1, 2, 3, 4, 5, 6, 7},
	}
	for count, own := range owns {
		for _, i := range []int{0, 1, 17, 31} {
			what := strconv.Itoa(count)
			s := tx.New(using())
			wantLay(t, what, s, i, dir(count), api.OK)
			wantRead(t, what, s, i, dir(count), own)
			wantSheet(t, what, s, over(emptied(using(own...), own), laid(i, dir(count), own)))
		}
	}
}

// P6.2: the example of the whole: a directory of 24 entries has six blocks and a list.
func TestExamples(t *testing.T) {
	s := tx.New(nil)
	wantLay(t, "24 entries", s, 0, dir(24), api.OK)
	wantRead(t, "24 entries", s, 0, dir(24), []int{1, 2, 3, 4, 5, 6, 7})
	if s.Get(824+7) != 7 || s.Get(1080+8*7) != 6 {
		t.Error("the list is", s.Get(824+7), "and tells", s.Get(1080+8*7))
	}
	s = tx.New(nil)
	wantLay(t, "six blocks", s, 3, file(384, 10, 11, 12, 13, 14, 15), api.OK)
	if s.Get(824+3*8+7) != 1 || s.Get(1080+8) != 15 || s.Get(824+3*8+6) != 14 {
		t.Error("five in the inode, one in a list")
	}
}

// P6.2: no inode from 0 to 31 is ErrArg, ahead of everything; nothing is read of none.
func TestNoInode(t *testing.T) {
	for _, words := range [][]uint64{nil, using(), using(butFree()...)} {
		s := tx.New(words)
		for _, i := range noInodes {
			wantUntouched(t, "no inode", s, func() {
				wantLay(t, "no inode", s, i, file(1, 9), api.ErrArg)
				wantLay(t, "no inode", s, i, dir(24), api.ErrArg)
				wantLay(t, "no inode", s, i, api.Inode{}, api.ErrArg)
				wantNone(t, "no inode", s, i)
			})
		}
	}
}

// P6.2: what isn't right, or is of the new format, is ErrArg, also where no block is free.
func TestLayWrong(t *testing.T) {
	wrong := []api.Inode{
		{}, file(-1), file(833), file(64, 5, 6), file(65, 5, 5), file(1, 256), file(1, -1), dir(25), dirOf("a", "a"), dirOf("b", "a"), dirOf(".."),
		but(file(0), func(n *api.Inode) { n.Links = 65536 }),
		but(dir(5), func(n *api.Inode) { n.Links = -1 }),
		but(file(0), func(n *api.Inode) { n.Kind = 3 }),
		but(dir(0), func(n *api.Inode) { n.Kind = 0 }),
		but(file(400, 1, 2, 3, 4, 5, 6), func(n *api.Inode) { n.Format = api.New }),
		but(dir(5), func(n *api.Inode) { n.Format = api.New }),
		but(file(0), func(n *api.Inode) { n.Format = 0 }),
		but(dir(0), func(n *api.Inode) { n.Format = 3 }),
		but(dir(5), func(n *api.Inode) { n.Size = 4 }),
		but(dir(5), func(n *api.Inode) { n.Blocks[0] = 9 }),
		but(dir(5), func(n *api.Inode) { n.Entries[4].Ino = 32 }),
		but(file(0), func(n *api.Inode) { n.Entries = []api.Entry{{Name: "a"}} }),
	}
	for _, words := range [][]uint64{nil, using(), using(butFree()...)} {
		s := tx.New(words)
		for _, n := range wrong {
			for _, i := range []int{0, 31} {
				wantUntouched(t, "wrong", s, func() { wantLay(t, "wrong", s, i, n, api.ErrArg) })
			}
		}
	}
}

// P6.2: as many blocks free as are needed, one fewer, and none; the block 0 is never free.
func TestRoom(t *testing.T) {
	some := []int{2, 63, 64, 65, 130, 191, 254, 255}
	cases := map[string]struct {
		n    api.Inode
		need int
	}{
		"a file of none":      {file(832), 0},
		"a file of five":      {file(320, 9, 8, 7, 6, 5), 0},
		"a file of six":       {file(321, 9, 8, 7, 6, 5, 10), 1},
		"a file of the last":  {file(832, 0, 0, 0, 0, 0, 0, 0, 0, 0, 0, 0, 0, 9), 1},
		"a directory of none": {dir(0), 0},
		"a directory of 1":    {dir(1), 1},
		"a directory of 4":    {dir(4), 1},
		"a directory of 5":    {dir(5), 2},
		"a directory of 20":   {dir(20), 5},
		"a directory of 21":   {dir(21), 7},
		"a directory of 24":   {dir(24), 7},
	}
	for name, c := range cases {
		for free := range len(some) + 1 {
			s := tx.New(using(butFree(append([]int{0}, some[:free]...)...)...))
			if free < c.need {
				wantUntouched(t, name, s, func() { wantLay(t, name, s, 5, c.n, api.ErrSpace) })
				continue
			}
			own := some[:c.need]
			words := s.Words()
			wantLay(t, name, s, 5, c.n, api.OK)
			for _, b := range own {
				words[816+b/64] |= 1 << (b % 64)
			}
			wantSheet(t, name, s, over(emptied(words, own), laid(5, c.n, own)))
			wantRead(t, name, s, 5, c.n, own)
		}
	}
}

// P6.2: what was there is not looked at: it is laid over, and its blocks stay used.
func TestLaidOver(t *testing.T) {
	s := tx.New(nil)
	wantLay(t, "at first", s, 4, dir(24), api.OK)
	wantLay(t, "over it", s, 4, dir(5), api.OK)
	wantRead(t, "over it", s, 4, dir(5), []int{8, 9})
	wantLay(t, "a file", s, 4, file(833-1, 0, 0, 0, 0, 0, 0, 0, 20), api.OK)
	wantRead(t, "a file", s, 4, file(832, 0, 0, 0, 0, 0, 0, 0, 20), []int{10})
	wantLay(t, "empty", s, 4, file(0), api.OK)
	wantRead(t, "empty", s, 4, file(0), nil)
	if got := s.Get(816); got != 0x7fe {
		t.Errorf("the bits are %x", got)
	}
}

// P6.3: all inodes are laid one behind the other; each is read, and none of the others is otherwise.
func TestAllInodes(t *testing.T) {
	s := tx.New(nil)
	var all []api.Inode
	for i := range 32 {
		n := dir((i * 5) % 25)
		if i%3 == 1 {
			n = file(832, 100+i, 0, 140+i, 0, 0, 180+i)
		}
		n.Links = i * 2114
		all = append(all, n)
		wantLay(t, "one of all", s, i, n, api.OK)
	}
	for i, n := range all {
		got, _, ok := fmt1.Read(s, i)
		if !ok || !same(got, n) {
			t.Errorf("the inode %d: %v, %v, want %v", i, got, ok, n)
		}
	}
}

// P6.2: whether blocks are used is not what Read asks: the words of the inode and its blocks are.
func TestReadAsksNoBits(t *testing.T) {
	for _, n := range []api.Inode{file(400, 9, 8, 7, 6, 5, 10), dir(24), dir(3)} {
		s := tx.New(nil)
		wantLay(t, "laid", s, 2, n, api.OK)
		_, own, _ := fmt1.Read(s, 2)
		for k := range 4 {
			s.Put(816+k, 0)
		}
		wantRead(t, "no bits", s, 2, n, own)
		for k := range 4 {
			s.Put(816+k, math.MaxUint64)
		}
		wantRead(t, "all bits", s, 2, n, own)
	}
}

// P6.3: a file's own block may be given to its list, if nobody had said that it is used: it is read all the same.
func TestListInOwnBlock(t *testing.T) {
	n := file(384, 1, 2, 3, 4, 5, 6)
	s := tx.New(nil)
	wantLay(t, "laid", s, 2, n, api.OK)
	wantRead(t, "laid", s, 2, n, []int{1})
}

// R4, R5: reading puts nothing; what is handed in is left, its spare room too; what is answered is new.
func TestNothingShared(t *testing.T) {
	room := append(dir(21).Entries, dir(24).Entries[21:]...)
	kept := slices.Clone(room)
	n := dir(21)
	n.Entries = room[:21]
	s := tx.New(nil)
	wantLay(t, "laid", s, 1, n, api.OK)
	wantUntouched(t, "read", s, func() {
		got, own, _ := fmt1.Read(s, 1)
		clear(own[:cap(own)])
		clear(got.Entries[:cap(got.Entries)])
	})
	if !slices.Equal(room, kept) {
		t.Error("what was handed in is another", room)
	}
	clear(room)
	wantRead(t, "all cleared", s, 1, dir(21), []int{1, 2, 3, 4, 5, 6, 7})
	right := dir(24)
	fmt1.Right(right)
	if !same(right, dir(24)) {
		t.Error("what was handed in is another", right)
	}
}

// R7: sheets don't hang on one another.
func TestSheetsApart(t *testing.T) {
	words := using()
	a, b := tx.New(words), tx.New(words)
	wantLay(t, "the one", a, 1, dir(24), api.OK)
	wantSheet(t, "the other", b, words)
	wantNone(t, "the other", b, 1)
	wantLay(t, "the other", b, 1, file(400, 20, 21, 22, 23, 24, 25), api.OK)
	wantRead(t, "the one", a, 1, dir(24), []int{1, 2, 3, 4, 5, 6, 7})
}
