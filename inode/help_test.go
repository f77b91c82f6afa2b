package inode_test

import (
	"math"
	"slices"
	"testing"

	"imago/api"
	"imago/fmt1"
	"imago/fmt2"
	"imago/inode"
	"imago/pack"
	"imago/tx"
)

// noInodes are numbers that are no inode's; some would be one's, if bits of them were lost.
var noInodes = []int{math.MinInt, math.MinInt + 5, -1 << 32, -1<<32 + 5, -103, -32, -1, 32, 33, 64, 256, 287, 1 << 32, 1<<32 + 5, math.MaxInt}

// edges are the inodes at both ends, and one between.
var edges = []int{0, 17, 31}

var formats = []int{api.Old, api.New}

// file is an old file of such a size, and such blocks from its first one on.
func file(size int, blocks ...int) api.Inode {
	n := api.Inode{Format: api.Old, Kind: api.File, Links: 1, Size: size}
	copy(n.Blocks[:], blocks)
	return n
}

// apart is an old file of so many runs, of a block each; up to seven have holes between them.
func apart(runs int) api.Inode {
	n := file(832)
	step := 1
	if runs <= 7 {
		step = 2
	}
	for k := range runs {
		n.Blocks[step*k] = 100 + 2*k
	}
	return n
}

// dir is an old directory of so many entries, which are spread over the buckets.
func dir(count int) api.Inode {
	var l []string
	for k := range count {
		l = append(l, string(rune('a'+k)))
	}
	return dirOf(l)
}

// spread is an old directory of so many entries in each bucket.
func spread(counts ...int) api.Inode {
	var l []string
	for bucket, count := range counts {
		for a := 'A'; a <= 'z' && count > 0; a++ {
			for b := 'A'; b <= 'Z' && count > 0; b++ {
				if name := string([]rune{a, b}); pack.Bucket(name) == bucket {
					l = append(l, name)
					count--
				}
			}
		}
	}
	return dirOf(l)
}

func dirOf(l []string) api.Inode {
	n := api.Inode{Format: api.Old, Kind: api.Dir, Links: 1, Size: len(l)}
	slices.Sort(l)
	for k, name := range l {
		n.Entries = append(n.Entries, api.Entry{Name: name, Ino: (k*7 + 3) % 32})
	}
	return n
}

// in is the same inode in a format, whichever.
func in(format int, n api.Inode) api.Inode {
	return but(n, func(n *api.Inode) { n.Format = format })
}

// but is an inode, altered.
func but(n api.Inode, alter func(n *api.Inode)) api.Inode {
	n.Entries = slices.Clone(n.Entries)
	alter(&n)
	return n
}

// samples are inodes of each shape, in both formats: of no block, with holes, of six and of seven runs, of no entry, of one, of all.
func samples() []api.Inode {
	l := []api.Inode{
		file(0), file(1, 99), file(832), file(320, 90, 91, 92, 93, 94), file(321, 99, 0, 98, 97, 96, 95),
		file(832, 90, 91, 92, 93, 94, 95, 96, 97, 98, 99, 100, 101, 102), file(832, 0, 0, 0, 0, 0, 0, 0, 0, 0, 0, 0, 0, 255),
		apart(5), apart(6), apart(7), apart(13), but(apart(7), func(n *api.Inode) { n.Links = 65535 }),
		dir(0), dir(1), dir(4), dir(5), dir(20), dir(21), dir(24), spread(24), spread(0, 3, 0, 4), spread(1, 1, 1, 21),
	}
	for _, n := range l {
		l = append(l, in(api.New, n))
	}
	return l
}

// wrong are inodes that aren't right.
func wrong() []api.Inode {
	falling := but(dir(2), func(n *api.Inode) { slices.Reverse(n.Entries) })
	l := []api.Inode{
		{}, file(-1), file(833), file(64, 5, 6), file(65, 5, 5), file(1, 256), file(1, -1), file(math.MaxInt), file(math.MinInt, 1),
		falling, dir(25), dirOf([]string{"a", "a"}), dirOf([]string{""}), dirOf([]string{".."}), dirOf([]string{"a", "b/"}), dirOf([]string{"abcdefgh"}),
		but(file(0), func(n *api.Inode) { n.Links = 65536 }), but(dir(5), func(n *api.Inode) { n.Links = -1 }),
		but(file(0), func(n *api.Inode) { n.Kind = 3 }), but(dir(0), func(n *api.Inode) { n.Kind = 0 }),
		but(dir(5), func(n *api.Inode) { n.Size = 4 }), but(dir(5), func(n *api.Inode) { n.Size = 6 }),
		but(dir(5), func(n *api.Inode) { n.Blocks[0] = 9 }), but(file(0), func(n *api.Inode) { n.Entries = []api.Entry{{Name: "a"}} }),
		but(dir(5), func(n *api.Inode) { n.Entries[4].Ino = 32 }), but(dir(5), func(n *api.Inode) { n.Entries[0].Ino = -1 }),
	}
	for _, n := range l[1:] {
		l = append(l, in(api.New, n))
	}
	for _, format := range []int{math.MinInt, -1, 0, 3, 4, 255, 256, 257, 258, 1<<32 + 1, 1<<32 + 2, math.MaxInt} {
		l = append(l, in(format, file(0)), in(format, apart(7)), in(format, dir(3)))
	}
	return l
}

// ownCount is how many blocks an inode takes in its format.
func ownCount(n api.Inode) int {
	if n.Format == api.New {
		return fmt2.Need(n)
	}
	own := (len(n.Entries) + 3) / 4
	if own > 5 || slices.Max(n.Blocks[5:]) > 0 {
		own++
	}
	return own
}

// sheetOf has words none of which is 0, but for the inodes', which are free, and the bits, by which just these blocks are used.
func sheetOf(used ...int) *tx.Sheet {
	words := make([]uint64, api.Words)
	for i := range words {
		words[i] = uint64(i)*0x9e3779b97f4a7c15 | 1
	}
	clear(words[816:1080])
	for _, b := range used {
		words[816+b/64] |= 1 << (b % 64)
	}
	return tx.New(words)
}

// butFree are all blocks, but these.
func butFree(free ...int) []int {
	var l []int
	for b := range 256 {
		if !slices.Contains(free, b) {
			l = append(l, b)
		}
	}
	return l
}

// freeBlocks are those that can be given out.
func freeBlocks(words []uint64) []int {
	var l []int
	for b := 1; b < 256; b++ {
		if words[816+b/64]>>(b%64)%2 == 0 {
			l = append(l, b)
		}
	}
	return l
}

// fill lets just so many blocks be free of those that are, the lowest.
func fill(s *tx.Sheet, left int) {
	for _, b := range freeBlocks(s.Words())[left:] {
		use(s, b)
	}
}

func use(s *tx.Sheet, blocks ...int) {
	for _, b := range blocks {
		s.Put(816+b/64, s.Get(816+b/64)|1<<(b%64))
	}
}

// given are the words, such blocks being given back: just their bits are otherwise.
func given(words []uint64, blocks []int) []uint64 {
	l := slices.Clone(words)
	for _, b := range blocks {
		l[816+b/64] &^= 1 << (b % 64)
	}
	return l
}

// behindPut are all words as a put should leave them, and the blocks that the inode should have then; false, if there should be no room.
func behindPut(words []uint64, own []int, i int, n api.Inode) ([]uint64, []int, bool) {
	l := given(words, own)
	free := freeBlocks(l)
	if len(free) < ownCount(n) {
		return nil, nil, false
	}
	s := tx.New(l)
	e := fmt1.Lay(s, i, n)
	if n.Format == api.New {
		e = fmt2.Lay(s, i, n)
	}
	return s.Words(), free[:ownCount(n)], e == api.OK
}

// same holds two inodes against each other; a list of no entries may be nil or empty.
func same(a, b api.Inode) bool {
	return a.Format == b.Format && a.Kind == b.Kind && a.Links == b.Links && a.Size == b.Size &&
		a.Blocks == b.Blocks && slices.Equal(a.Entries, b.Entries)
}

func wantGet(t *testing.T, what string, s *tx.Sheet, i int, n api.Inode, own []int) {
	t.Helper()
	got, gotOwn, e := inode.Get(s, i)
	if e != api.OK || !same(got, n) || !slices.Equal(gotOwn, own) {
		t.Errorf("%s: get of %d: %v, %v, %v, want %v, %v", what, i, got, gotOwn, e, n, own)
	}
}

// wantNothing asks that nothing is got, by such an error, and nothing told beside it.
func wantNothing(t *testing.T, what string, s *tx.Sheet, i int, want api.Errno) {
	t.Helper()
	got, own, e := inode.Get(s, i)
	if e != want || !same(got, api.Inode{}) || len(own) != 0 {
		t.Errorf("%s: get of %d: %v, %v, %v, want the error %v", what, i, got, own, e, want)
	}
}

func wantPut(t *testing.T, what string, s *tx.Sheet, i int, n api.Inode, want api.Errno) {
	t.Helper()
	if got := inode.Put(s, i, n); got != want {
		t.Errorf("%s: put at %d: %v, want %v, of %v", what, i, got, want, n)
	}
}

func wantNew(t *testing.T, what string, s *tx.Sheet, n api.Inode, want int, wantE api.Errno) {
	t.Helper()
	if got, e := inode.New(s, n); got != want || e != wantE {
		t.Errorf("%s: new: %d, %v, want %d, %v, of %v", what, got, e, want, wantE, n)
	}
}

func wantDrop(t *testing.T, what string, s *tx.Sheet, i int, want api.Errno) {
	t.Helper()
	if got := inode.Drop(s, i); got != want {
		t.Errorf("%s: drop of %d: %v, want %v", what, i, got, want)
	}
}

func wantAll(t *testing.T, what string, s *tx.Sheet, i int, want []int) {
	t.Helper()
	if got := inode.All(s, i); !slices.Equal(got, want) {
		t.Errorf("%s: all blocks of %d: %v, want %v", what, i, got, want)
	}
}

func wantFree(t *testing.T, what string, s *tx.Sheet, i int, want bool) {
	t.Helper()
	if got := inode.Free(s, i); got != want {
		t.Errorf("%s: free of %d: %v, want %v", what, i, got, want)
	}
}

// wantSheet asks for all words of a sheet, and tells of the first one that is another.
func wantSheet(t *testing.T, what string, s *tx.Sheet, want []uint64) {
	t.Helper()
	for i, w := range s.Words() {
		if w != want[i] {
			t.Errorf("%s: the word %d is %x, want %x", what, i, w, want[i])
			return
		}
	}
}

// wantUntouched asks that a deed leaves all words, and no put that would have to be undone.
func wantUntouched(t *testing.T, what string, s *tx.Sheet, deed func()) {
	t.Helper()
	mark, words := s.Mark(), s.Words()
	deed()
	if s.Mark() != mark {
		t.Errorf("%s: %d puts", what, s.Mark()-mark)
	}
	wantSheet(t, what, s, words)
}
