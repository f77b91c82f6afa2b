package fmt2_test

import (
	"math"
	"slices"
	"testing"

	"imago/api"
	"imago/fmt1"
	"imago/fmt2"
	"imago/tx"
)

// noInodes are numbers that are no inode's; some would be one's, if bits of them were lost.
var noInodes = []int{math.MinInt, math.MinInt + 5, -1 << 32, -1<<32 + 5, -33, -32, -1, 32, 33, 64, 256, 824, 1 << 32, 1<<32 + 5, math.MaxInt}

type numbers = [api.MaxBlocks]int

// numbersOf are such blocks from the first place on.
func numbersOf(blocks ...int) numbers {
	var l numbers
	copy(l[:], blocks)
	return l
}

// file is a new file of such a size, and such blocks from its first one on.
func file(size int, blocks ...int) api.Inode {
	return api.Inode{Format: api.New, Kind: api.File, Links: 1, Size: size, Blocks: numbersOf(blocks...)}
}

// apart is a file of so many runs, of a block each; up to seven have holes between them.
func apart(runs int) api.Inode {
	n := file(832)
	step := 1
	if runs <= 7 {
		step = 2
	}
	for k := range runs {
		n.Blocks[step*k] = 100 + 2*k
	}
	return n
}

// namesOf are the first names of a bucket, rising, of one byte, two, and seven.
func namesOf(bucket, count int) []string {
	letters := []string{"!", "-", ".", "0", "9", "A", "Z", "_", "a", "m", "z", "~"}
	var l []string
	for _, a := range letters {
		all := []string{a, a + "abcdef"}
		for _, b := range letters {
			all = append(all, a+b)
		}
		for _, name := range all {
			if good(name) && bucketOf(name) == bucket && len(l) < count {
				l = append(l, name)
			}
		}
	}
	slices.Sort(l)
	return l
}

// dir is a new directory of so many entries in each bucket.
func dir(counts ...int) api.Inode {
	var l []string
	for bucket, count := range counts {
		l = append(l, namesOf(bucket, count)...)
	}
	n := dirOf(l...)
	for k := range n.Entries {
		n.Entries[k].Ino = (k*7 + 3) % 32
	}
	return n
}

// dirOf is a new directory of just these names.
func dirOf(l ...string) api.Inode {
	n := api.Inode{Format: api.New, Kind: api.Dir, Links: 1, Size: len(l)}
	l = slices.Clone(l)
	slices.Sort(l)
	for _, name := range l {
		n.Entries = append(n.Entries, api.Entry{Name: name, Ino: 1})
	}
	return n
}

// upTo are the numbers from 1 on.
func upTo(count int) []int {
	var l []int
	for b := range count {
		l = append(l, b+1)
	}
	return l
}

// but is an inode, altered.
func but(n api.Inode, alter func(n *api.Inode)) api.Inode {
	n.Entries = slices.Clone(n.Entries)
	alter(&n)
	return n
}

// inOld is the same inode, in the old format.
func inOld(n api.Inode) api.Inode {
	return but(n, func(n *api.Inode) { n.Format = api.Old })
}

// same holds two inodes against each other; a list of no entries may be nil or empty.
func same(a, b api.Inode) bool {
	return a.Format == b.Format && a.Kind == b.Kind && a.Links == b.Links && a.Size == b.Size &&
		a.Blocks == b.Blocks && slices.Equal(a.Entries, b.Entries)
}

func wantRuns(t *testing.T, what string, l numbers, want []uint64) {
	t.Helper()
	if got := fmt2.Runs(l); !slices.Equal(got, want) {
		t.Errorf("%s: runs of %v: %x, want %x", what, l, got, want)
	}
}

func wantNeed(t *testing.T, what string, n api.Inode, want int) {
	t.Helper()
	if got := fmt2.Need(n); got != want {
		t.Errorf("%s: need: %d, want %d, of %v", what, got, want, n)
	}
}

func wantLay(t *testing.T, what string, s *tx.Sheet, i int, n api.Inode, want api.Errno) {
	t.Helper()
	if got := fmt2.Lay(s, i, n); got != want {
		t.Errorf("%s: lay at %d: %v, want %v, of %v", what, i, got, want, n)
	}
}

func wantRead(t *testing.T, what string, s *tx.Sheet, i int, n api.Inode, own []int) {
	t.Helper()
	got, gotOwn, ok := fmt2.Read(s, i)
	if !ok || !same(got, n) || !slices.Equal(gotOwn, own) {
		t.Errorf("%s: read at %d: %v, %v, %v, want %v, %v", what, i, got, gotOwn, ok, n, own)
	}
}

// wantNone asks that nothing is read, and nothing told beside the false.
func wantNone(t *testing.T, what string, s *tx.Sheet, i int) {
	t.Helper()
	got, own, ok := fmt2.Read(s, i)
	if ok || !same(got, api.Inode{}) || len(own) != 0 {
		t.Errorf("%s: read at %d: %v, %v, %v, want nothing", what, i, got, own, ok)
	}
}

// wantSheet asks for all words of a sheet, and tells of the first one that is another.
func wantSheet(t *testing.T, what string, s *tx.Sheet, want []uint64) {
	t.Helper()
	for i, w := range s.Words() {
		if w != want[i] {
			t.Errorf("%s: the word %d is %x, want %x", what, i, w, want[i])
			return
		}
	}
}

// wantUntouched asks that a deed puts nothing, not even what is there already.
func wantUntouched(t *testing.T, what string, s *tx.Sheet, deed func()) {
	t.Helper()
	mark, words := s.Mark(), s.Words()
	deed()
	if s.Mark() != mark {
		t.Errorf("%s: %d puts", what, s.Mark()-mark)
	}
	wantSheet(t, what, s, words)
}

// using are words none of which is 0, but for the four of the bits, by which just these blocks are used.
func using(blocks ...int) []uint64 {
	l := make([]uint64, api.Words)
	for i := range l {
		l[i] = uint64(i)*0x9e3779b97f4a7c15 | 1
	}
	clear(l[816:820])
	for _, b := range blocks {
		l[816+b/64] |= uint64(math.Pow(2, float64(b%64)))
	}
	return l
}

// butFree are all blocks, but these.
func butFree(free ...int) []int {
	var l []int
	for b := range 256 {
		if !slices.Contains(free, b) {
			l = append(l, b)
		}
	}
	return l
}

// P7.1: the runs of blocks at the edges: none, one, all, none beside another, at both ends, with holes.
func TestRuns(t *testing.T) {
	cases := map[string]struct {
		l    numbers
		want []uint64
	}{
		"none":                      {numbersOf(), nil},
		"one":                       {numbersOf(5), []uint64{0x501}},
		"the lowest":                {numbersOf(1), []uint64{0x101}},
		"the highest":               {numbersOf(255), []uint64{0xff01}},
		"one at the last place":     {numbersOf(0, 0, 0, 0, 0, 0, 0, 0, 0, 0, 0, 0, 9), []uint64{0xc_0000_0901}},
		"one within":                {numbersOf(0, 0, 0, 7), []uint64{0x3_0000_0701}},
		"the example":               {numbersOf(9, 10, 11), []uint64{0x903}},
		"all in one, low":           {numbersOf(1, 2, 3, 4, 5, 6, 7, 8, 9, 10, 11, 12, 13), []uint64{0x10d}},
		"all in one, high":          {numbersOf(243, 244, 245, 246, 247, 248, 249, 250, 251, 252, 253, 254, 255), []uint64{0xf30d}},
		"all but the first":         {numbersOf(0, 2, 3, 4, 5, 6, 7, 8, 9, 10, 11, 12, 13), []uint64{0x1_0000_020c}},
		"all but the last":          {numbersOf(1, 2, 3, 4, 5, 6, 7, 8, 9, 10, 11, 12), []uint64{0x10c}},
		"up to the last place":      {numbersOf(0, 0, 0, 0, 0, 0, 0, 0, 0, 0, 40, 41, 42), []uint64{0xa_0000_2803}},
		"both ends":                 {numbersOf(20, 21, 0, 0, 0, 0, 0, 0, 0, 0, 0, 22, 23), []uint64{0x1402, 0xb_0000_1602}},
		"a hole, numbers follow":    {numbersOf(9, 0, 10), []uint64{0x901, 0x2_0000_0a01}},
		"a hole in place of one":    {numbersOf(9, 0, 11), []uint64{0x901, 0x2_0000_0b01}},
		"a hole in a long one":      {numbersOf(30, 31, 32, 0, 34, 35), []uint64{0x1e03, 0x4_0000_2202}},
		"a nought ahead of 1":       {numbersOf(0, 1, 2), []uint64{0x1_0000_0102}},
		"falling":                   {numbersOf(5, 4, 3), []uint64{0x501, 0x1_0000_0401, 0x2_0000_0301}},
		"the same":                  {numbersOf(7, 7, 7), []uint64{0x701, 0x1_0000_0701, 0x2_0000_0701}},
		"the same, then the next":   {numbersOf(7, 7, 8, 8), []uint64{0x701, 0x1_0000_0702, 0x3_0000_0801}},
		"two apart":                 {numbersOf(1, 3, 5), []uint64{0x101, 0x1_0000_0301, 0x2_0000_0501}},
		"beside, another run":       {numbersOf(9, 10, 20, 21, 11, 12), []uint64{0x902, 0x2_0000_1402, 0x4_0000_0b02}},
		"around the words' ends":    {numbersOf(63, 64, 65, 127, 128, 191, 192), []uint64{0x3f03, 0x3_0000_7f02, 0x5_0000_bf02}},
		"none beside, two, and one": {numbersOf(3, 0, 50, 51, 0, 7), []uint64{0x301, 0x2_0000_3202, 0x5_0000_0701}},
		"none beside another": {numbersOf(2, 4, 6, 8, 10, 12, 14, 16, 18, 20, 22, 24, 26), []uint64{
			0x201, 0x1_0000_0401, 0x2_0000_0601, 0x3_0000_0801, 0x4_0000_0a01, 0x5_0000_0c01, 0x6_0000_0e01,
			0x7_0000_1001, 0x8_0000_1201, 0x9_0000_1401, 0xa_0000_1601, 0xb_0000_1801, 0xc_0000_1a01}},
	}
	for name, c := range cases {
		wantRuns(t, name, c.l, c.want)
	}
}

// P7.1: numbers that are none from 0 to 255 count as 0; a run neither holds them nor goes on over them.
func TestRunsOfNoBlocks(t *testing.T) {
	for _, b := range []int{math.MinInt, math.MinInt + 10, -1 << 32, -1<<32 + 10, -256, -246, -10, -1, 256, 257, 266, 512, 1 << 16, 1 << 32, 1<<32 + 10, 1<<56 + 10, math.MaxInt - 1, math.MaxInt} {
		for k := range api.MaxBlocks {
			var l numbers
			l[k] = b
			wantRuns(t, "alone", l, nil)
		}
		wantRuns(t, "between", numbersOf(9, b, 11), []uint64{0x901, 0x2_0000_0b01})
		wantRuns(t, "ahead", numbersOf(b, 9, 10), []uint64{0x1_0000_0902})
		wantRuns(t, "behind", numbersOf(8, 9, b), []uint64{0x802})
	}
	wantRuns(t, "beyond the highest", numbersOf(253, 254, 255, 256, 257), []uint64{0xfd03})
	wantRuns(t, "from -1 on", numbersOf(-2, -1, 0, 1, 2), []uint64{0x3_0000_0102})
	wantRuns(t, "256, then 1", numbersOf(255, 256, 1), []uint64{0xff01, 0x2_0000_0101})
	wantRuns(t, "none follows 0", numbersOf(-1, 0, 1), []uint64{0x2_0000_0101})
	wantRuns(t, "following, beyond", numbersOf(256, 257, 258, 259), nil)
	wantRuns(t, "following, below", numbersOf(-4, -3, -2, -1), nil)
	wantRuns(t, "the most, and around", numbersOf(math.MaxInt, math.MinInt, math.MinInt+1), nil)
}

// P7.1: a run at each place, of each length, that begins or ends with each number.
func TestRunEverywhere(t *testing.T) {
	for first := range api.MaxBlocks {
		for count := 1; first+count <= api.MaxBlocks; count++ {
			for _, number := range []int{1, 2, 100, 255 - count, 256 - count} {
				var l numbers
				for k := range count {
					l[first+k] = number + k
				}
				wantRuns(t, "alone", l, []uint64{uint64(first)<<32 + uint64(number)<<8 + uint64(count)})
			}
		}
	}
}

// R5: what Runs answers is new.
func TestRunsAreNew(t *testing.T) {
	l := numbersOf(9, 10, 0, 20)
	got := fmt2.Runs(l)
	clear(got[:cap(got)])
	wantRuns(t, "cleared", l, []uint64{0x902, 0x3_0000_1401})
}

// P7.1: what files take: a block just from the seventh run on.
func TestNeedOfFiles(t *testing.T) {
	for runs := range 14 {
		want := 0
		if runs > 6 {
			want = 1
		}
		wantNeed(t, "apart", apart(runs), want)
		wantNeed(t, "in the old format", inOld(apart(runs)), want)
	}
	cases := map[string]struct {
		n    api.Inode
		want int
	}{
		"empty":                   {file(0), 0},
		"all holes":               {file(832), 0},
		"all in one":              {file(832, 1, 2, 3, 4, 5, 6, 7, 8, 9, 10, 11, 12, 13), 0},
		"six, with long ones":     {file(832, 10, 11, 12, 0, 20, 21, 30, 31, 0, 40, 50, 60, 61), 0},
		"seven, with long ones":   {file(832, 10, 11, 12, 20, 21, 30, 31, 0, 40, 50, 60, 61, 70), 1},
		"seven in all 13":         {file(832, 10, 11, 20, 21, 30, 31, 40, 41, 50, 51, 60, 61, 70), 1},
		"seven, ahead of the end": {file(449, 10, 12, 14, 16, 18, 20, 0, 21), 1},
	}
	for name, c := range cases {
		wantNeed(t, name, c.n, c.want)
		wantNeed(t, name+", old", inOld(c.n), c.want)
	}
}

// P7.1: what directories take: a block for each three of a bucket's entries.
func TestNeedOfDirs(t *testing.T) {
	for count := range 25 {
		for bucket := range 4 {
			var counts [4]int
			counts[bucket] = count
			wantNeed(t, "one bucket", dir(counts[:]...), (count+2)/3)
			wantNeed(t, "one bucket, old", inOld(dir(counts[:]...)), (count+2)/3)
		}
	}
	cases := []struct{ a, b, c, d, want int }{
		{1, 1, 0, 0, 2}, {1, 1, 1, 1, 4}, {3, 3, 3, 3, 4}, {4, 3, 3, 3, 5}, {4, 4, 4, 4, 8}, {6, 6, 6, 6, 8},
		{7, 7, 7, 3, 10}, {1, 1, 1, 21, 10}, {22, 1, 1, 0, 10}, {0, 0, 4, 2, 3}, {2, 2, 0, 2, 3}, {0, 3, 0, 4, 3},
	}
	for _, c := range cases {
		wantNeed(t, "buckets", dir(c.a, c.b, c.c, c.d), c.want)
	}
}

// R1, R5: Need ends at all arguments, and leaves what is handed in.
func TestNeedOfAnything(t *testing.T) {
	odd := []api.Inode{
		{}, file(-1, 1, 3, 5), file(math.MaxInt), file(0, math.MinInt, math.MaxInt, -1, 256), {Kind: math.MinInt, Size: math.MinInt, Links: math.MaxInt},
		dirOf("", ".", "..", "abcdefgh", "a/b", "\x00", "é"), dirOf("a", "a", "a", "a"), {Kind: api.Dir, Size: -1, Entries: make([]api.Entry, 1000)},
		but(dir(5, 5, 5, 5), func(n *api.Inode) { n.Blocks = numbersOf(1, 3, 5, 7, 9, 11, 13, 15); n.Kind = 7 }),
	}
	for _, n := range odd {
		fmt2.Need(n)
	}
	room := dir(6, 6, 6, 6).Entries
	kept := slices.Clone(room)
	n := dirOf()
	n.Entries, n.Size = room[:5], 5
	fmt2.Need(n)
	if !slices.Equal(room, kept) {
		t.Error("what was handed in is another", room)
	}
}

// P7.2: the words of a file of six runs, one by one, and of seven, in the places that the document names.
func TestWordsOfFile(t *testing.T) {
	n := file(800, 9, 10, 11, 0, 255, 1, 2, 8, 0, 30, 29)
	n.Links = 65535
	s := tx.New(using(butFree(77, 200)...))
	wantLay(t, "six runs", s, 31, n, api.OK)
	l := using(butFree(77, 200)...)
	copy(l[824+8*31:], []uint64{0xffff0102, 800, 0x903, 0x4_0000_ff01, 0x5_0000_0102, 0x7_0000_0801, 0x9_0000_1e01, 0xa_0000_1d01})
	wantSheet(t, "six runs", s, l)
	wantRead(t, "six runs", s, 31, n, nil)

	n.Blocks[12] = 60
	wantLay(t, "seven runs", s, 31, n, api.OK)
	l = using(butFree(200)...)
	copy(l[824+8*31:], []uint64{0xffff0102, 800, 0x903, 0x4_0000_ff01, 0x5_0000_0102, 0x7_0000_0801, 0x9_0000_1e01, 0x8000_0000_0000_004d})
	copy(l[1080+8*77:], []uint64{0xa_0000_1d01, 0xc_0000_3c01, 0, 0, 0, 0, 0, 0})
	wantSheet(t, "seven runs", s, l)
	wantRead(t, "seven runs", s, 31, n, []int{77})
}

// P7.2: a file of thirteen runs fills its block; one of one run has noughts behind.
func TestWordsOfMostAndFewest(t *testing.T) {
	s := tx.New(using(butFree(255)...))
	n := file(769, 201, 3, 203, 5, 205, 7, 207, 9, 209, 11, 211, 13, 213)
	n.Links = 0
	wantLay(t, "thirteen runs", s, 0, n, api.OK)
	l := using(butFree()...)
	copy(l[824:], []uint64{0x102, 769, 0xc901, 0x1_0000_0301, 0x2_0000_cb01, 0x3_0000_0501, 0x4_0000_cd01, 0x8000_0000_0000_00ff})
	copy(l[1080+8*255:], []uint64{0x5_0000_0701, 0x6_0000_cf01, 0x7_0000_0901, 0x8_0000_d101, 0x9_0000_0b01, 0xa_0000_d301, 0xb_0000_0d01, 0xc_0000_d501})
	wantSheet(t, "thirteen runs", s, l)
	wantRead(t, "thirteen runs", s, 0, n, []int{255})

	n = file(832, 101, 102, 103, 104, 105, 106, 107, 108, 109, 110, 111, 112, 113)
	wantLay(t, "one run", s, 0, n, api.OK)
	copy(l[824:], []uint64{0x10102, 832, 0x650d, 0, 0, 0, 0, 0})
	wantSheet(t, "one run", s, l)
	wantRead(t, "one run", s, 0, n, nil)

	wantLay(t, "none", s, 0, file(832), api.OK)
	copy(l[824:], []uint64{0x10102, 832, 0, 0, 0, 0, 0, 0})
	wantSheet(t, "none", s, l)
	wantRead(t, "none", s, 0, file(832), nil)
}

// P7.2: the words of a directory: the blocks are taken bucket by bucket, an empty one has none.
func TestWordsOfDir(t *testing.T) {
	s := tx.New(using(butFree(3, 64, 100, 250, 255)...))
	n := dirOf("a", "b", "d", "e", "f", "i", "j", "n")
	n.Links = 2
	for k := range n.Entries {
		n.Entries[k].Ino = 31 - 4*k
	}
	wantLay(t, "a directory", s, 1, n, api.OK)
	l := using(butFree(255)...)
	const a = 0x0100000000000061
	copy(l[824+8:], []uint64{0x20202, 8, 3, 0, 100, 250, 0, 0})
	copy(l[1080+8*3:], []uint64{64, a + 1, 27, a + 5, 15, a + 9, 7, 0})
	copy(l[1080+8*64:], []uint64{0, a + 13, 3, 0, 0, 0, 0, 0})
	copy(l[1080+8*100:], []uint64{0, a + 3, 23, 0, 0, 0, 0, 0})
	copy(l[1080+8*250:], []uint64{0, a, 31, a + 4, 19, a + 8, 11, 0})
	wantSheet(t, "a directory", s, l)
	wantRead(t, "a directory", s, 1, n, []int{3, 64, 100, 250})
}

// P7.2: all entries in one bucket: a row of eight blocks, each of which leads to the next.
func TestWordsOfOneBucket(t *testing.T) {
	free := []int{2, 5, 63, 64, 65, 128, 192, 254}
	s := tx.New(using(butFree(free...)...))
	n := dir(0, 24, 0, 0)
	wantLay(t, "one bucket", s, 30, n, api.OK)
	l := using(butFree()...)
	copy(l[824+8*30:], []uint64{0x10202, 24, 0, 2, 0, 0, 0, 0})
	for k, b := range free {
		l[1080+8*b], l[1080+8*b+7] = 0, 0
		if k < 7 {
			l[1080+8*b] = uint64(free[k+1])
		}
		for j, x := range n.Entries[3*k : 3*k+3] {
			l[1080+8*b+1+2*j], l[1080+8*b+2+2*j] = entryWord(x.Name), uint64(x.Ino)
		}
	}
	wantSheet(t, "one bucket", s, l)
	wantRead(t, "one bucket", s, 30, n, free)
}

// P7.2: which block a file takes, and what is in it, of each number of runs.
func TestTakenOfFiles(t *testing.T) {
	for runs := range 14 {
		for _, i := range []int{0, 1, 17, 31} {
			s, n := tx.New(using()), apart(runs)
			var own []int
			if runs > 6 {
				own = []int{1}
			}
			wantLay(t, "apart", s, i, n, api.OK)
			wantSheet(t, "apart", s, over(using(own...), laid(i, n, own)))
			wantRead(t, "apart", s, i, n, own)
		}
	}
}

// P7.2: which blocks directories take, and what is in them: no entry, one, three and four of a bucket, all, of each bucket.
func TestTakenOfDirs(t *testing.T) {
	cases := []struct{ a, b, c, d, own int }{
		{0, 0, 0, 0, 0}, {1, 0, 0, 0, 1}, {0, 1, 0, 0, 1}, {0, 0, 1, 0, 1}, {0, 0, 0, 1, 1}, {1, 1, 1, 1, 4},
		{3, 0, 0, 0, 1}, {4, 0, 0, 0, 2}, {0, 0, 0, 3, 1}, {0, 0, 0, 4, 2}, {0, 3, 4, 0, 3}, {4, 0, 0, 3, 3},
		{6, 0, 7, 0, 5}, {6, 6, 6, 6, 8}, {1, 7, 7, 7, 10}, {7, 7, 7, 3, 10}, {7, 7, 9, 1, 10}, {1, 1, 1, 21, 10}, {1, 0, 22, 1, 10},
		{24, 0, 0, 0, 8}, {0, 24, 0, 0, 8}, {0, 0, 24, 0, 8}, {0, 0, 0, 24, 8}, {12, 12, 0, 0, 8}, {0, 0, 23, 1, 9},
	}
	for _, c := range cases {
		for _, i := range []int{0, 1, 17, 31} {
			s, n := tx.New(using()), dir(c.a, c.b, c.c, c.d)
			own := upTo(c.own)
			wantLay(t, "buckets", s, i, n, api.OK)
			wantSheet(t, "buckets", s, over(using(own...), laid(i, n, own)))
			wantRead(t, "buckets", s, i, n, own)
		}
	}
}

// P7.2: the examples of the chapter and of the whole.
func TestExamples(t *testing.T) {
	s := tx.New(nil)
	wantLay(t, "one run", s, 3, file(192, 9, 10, 11), api.OK)
	if s.Get(824+3*8+2) != 0x903 || s.Get(824+3*8+3) != 0 {
		t.Error("blocks 9, 10, 11 are", s.Get(824+3*8+2), s.Get(824+3*8+3))
	}
	for _, n := range []api.Inode{dir(6, 6, 6, 6), dir(24), dir(5, 6, 6, 7), dir(10, 10, 2, 2)} {
		s = tx.New(nil)
		wantLay(t, "24 entries", s, 0, n, api.OK)
		if _, own, ok := fmt2.Read(s, 0); !ok || len(own) < 8 {
			t.Error("24 entries have the blocks", own)
		}
	}
}

// P7.2: no inode from 0 to 31 is ErrArg, ahead of everything; nothing is read of none.
func TestNoInode(t *testing.T) {
	for _, words := range [][]uint64{nil, using(), using(butFree()...)} {
		s := tx.New(words)
		for _, i := range noInodes {
			wantUntouched(t, "no inode", s, func() {
				wantLay(t, "no inode", s, i, file(1, 9), api.ErrArg)
				wantLay(t, "no inode", s, i, apart(7), api.ErrArg)
				wantLay(t, "no inode", s, i, dir(6, 6, 6, 6), api.ErrArg)
				wantLay(t, "no inode", s, i, api.Inode{}, api.ErrArg)
				wantNone(t, "no inode", s, i)
			})
		}
	}
}

// P7.2: nothing is read of no inode, also where an inode's words stand at its place, or right behind all.
func TestReadNoInode(t *testing.T) {
	s := tx.New(nil)
	l := laid(5, file(192, 9, 10, 11), nil)
	for at := 0; at+8 <= api.Words; at += 8 {
		for k := range 8 {
			s.Put(at+k, l[824+8*5+k])
		}
	}
	for _, i := range append(noInodes, -103, -102, 34, 287) {
		wantNone(t, "no inode", s, i)
	}
	wantRead(t, "an inode", s, 0, file(192, 9, 10, 11), nil)
	wantRead(t, "an inode", s, 31, file(192, 9, 10, 11), nil)
}

// P7.2: what isn't right, or is of another format than New, is ErrArg, also where no block is free.
func TestLayWrong(t *testing.T) {
	falling := but(dirOf("a", "b"), func(n *api.Inode) { slices.Reverse(n.Entries) })
	wrong := []api.Inode{
		{}, file(-1), file(833), file(64, 5, 6), file(65, 5, 5), file(1, 256), file(1, -1), dirOf("a", "a"), falling, dirOf(".."), dirOf(""),
		dir(25, 0, 0, 0), dir(6, 6, 6, 7), dir(0, 0, 0, 25), dirOf("abcdefgh"), dirOf("a", "b/"),
		but(file(0), func(n *api.Inode) { n.Links = 65536 }),
		but(dir(5), func(n *api.Inode) { n.Links = -1 }),
		but(file(0), func(n *api.Inode) { n.Kind = 3 }),
		but(dir(0), func(n *api.Inode) { n.Kind = 0 }),
		inOld(file(400, 1, 2, 3, 4, 5, 6)), inOld(apart(7)), inOld(dir(1, 1, 1, 1)), inOld(dir(0)), inOld(file(0)),
		but(dir(5), func(n *api.Inode) { n.Size = 4 }),
		but(dir(5), func(n *api.Inode) { n.Size = 6 }),
		but(dir(5), func(n *api.Inode) { n.Blocks[0] = 9 }),
		but(dir(5), func(n *api.Inode) { n.Entries[4].Ino = 32 }),
		but(dir(5), func(n *api.Inode) { n.Entries[0].Ino = -1 }),
		but(file(0), func(n *api.Inode) { n.Entries = []api.Entry{{Name: "a"}} }),
	}
	for _, format := range []int{math.MinInt, -1, 0, 1, 3, 4, 255, 256, 258, 1<<32 + 2, math.MaxInt} {
		wrong = append(wrong, but(file(0), func(n *api.Inode) { n.Format = format }), but(dir(3, 1), func(n *api.Inode) { n.Format = format }))
	}
	for _, words := range [][]uint64{nil, using(), using(butFree()...)} {
		s := tx.New(words)
		for _, n := range wrong {
			for _, i := range []int{0, 31} {
				wantUntouched(t, "wrong", s, func() { wantLay(t, "wrong", s, i, n, api.ErrArg) })
			}
		}
	}
}

// P7.2: as many blocks free as are needed, one fewer, and none; the block 0 is never free.
func TestRoom(t *testing.T) {
	some := []int{2, 63, 64, 65, 130, 191, 192, 193, 254, 255}
	cases := map[string]struct {
		n    api.Inode
		need int
	}{
		"a file of no blocks":        {file(832), 0},
		"a file of one run":          {file(832, 11, 12, 13, 14, 15, 16, 17, 18, 19, 20, 21, 22, 23), 0},
		"a file of six runs":         {apart(6), 0},
		"a file of seven runs":       {apart(7), 1},
		"a file of thirteen runs":    {apart(13), 1},
		"a directory of none":        {dir(0), 0},
		"a directory of one":         {dir(0, 1), 1},
		"three of a bucket":          {dir(0, 0, 3), 1},
		"four of a bucket":           {dir(0, 0, 4), 2},
		"one of each bucket":         {dir(1, 1, 1, 1), 4},
		"all of one bucket":          {dir(24), 8},
		"the most blocks there are":  {dir(1, 1, 1, 21), 10},
		"the most, in other buckets": {dir(7, 7, 7, 3), 10},
	}
	for name, c := range cases {
		for free := range len(some) + 1 {
			words := using(butFree(append([]int{0}, some[:free]...)...)...)
			s := tx.New(words)
			if free < c.need {
				wantUntouched(t, name, s, func() { wantLay(t, name, s, 5, c.n, api.ErrSpace) })
				continue
			}
			own := some[:c.need]
			wantLay(t, name, s, 5, c.n, api.OK)
			for _, b := range own {
				words[816+b/64] |= 1 << (b % 64)
			}
			wantSheet(t, name, s, over(words, laid(5, c.n, own)))
			wantRead(t, name, s, 5, c.n, own)
		}
	}
}

// P7.2: what was there is not looked at: it is laid over, and its blocks stay used.
func TestLaidOver(t *testing.T) {
	s := tx.New(nil)
	wantLay(t, "at first", s, 4, dir(24), api.OK)
	wantLay(t, "over it", s, 4, dir(0, 3, 0, 4), api.OK)
	wantRead(t, "over it", s, 4, dir(0, 3, 0, 4), []int{9, 10, 11})
	wantLay(t, "a file", s, 4, apart(7), api.OK)
	wantRead(t, "a file", s, 4, apart(7), []int{12})
	wantLay(t, "another", s, 4, file(832, 20), api.OK)
	wantRead(t, "another", s, 4, file(832, 20), nil)
	wantLay(t, "a directory again", s, 4, dir(0), api.OK)
	wantRead(t, "a directory again", s, 4, dir(0), nil)
	if got := s.Get(816); got != 0x1ffe {
		t.Errorf("the bits are %x", got)
	}
}

// P7.3: all inodes are laid one behind the other; each is read, and none of the others is otherwise.
func TestAllInodes(t *testing.T) {
	s := tx.New(nil)
	var all []api.Inode
	for i := range 32 {
		n := dir(i%5, (i*3)%7, i%2, (i*5)%11)
		if i%3 == 1 {
			n = apart(i % 14)
			n.Size = 832 - i
		}
		n.Links = i * 2114
		all = append(all, n)
		wantLay(t, "one of all", s, i, n, api.OK)
	}
	for i, n := range all {
		got, _, ok := fmt2.Read(s, i)
		if !ok || !same(got, n) {
			t.Errorf("the inode %d: %v, %v, want %v", i, got, ok, n)
		}
	}
}

// P7.3: how many entries there are in a bucket doesn't matter, nor which one it is.
func TestEachCount(t *testing.T) {
	for bucket := range 4 {
		for count := range 25 {
			var counts [4]int
			counts[bucket] = count
			counts[(bucket+1)%4] = min(2, 24-count)
			n := dir(counts[:]...)
			s := tx.New(nil)
			wantLay(t, "so many", s, 8, n, api.OK)
			wantRead(t, "so many", s, 8, n, upTo(blocksOf(n)))
		}
	}
}

// P7.2, P7.3: what is laid in the one format isn't read in the other, but is the same, laid in both.
func TestFormatsApart(t *testing.T) {
	for _, n := range []api.Inode{file(0), file(832), file(320, 50, 51, 52), apart(7), apart(13), dir(0), dir(1), dir(2, 0, 3, 4), dir(6, 6, 6, 6)} {
		s := tx.New(nil)
		wantLay(t, "new", s, 1, n, api.OK)
		if e := fmt1.Lay(s, 2, inOld(n)); e != api.OK {
			t.Error("the old format:", e)
		}
		wantNone(t, "laid old, read new", s, 2)
		if _, _, ok := fmt1.Read(s, 1); ok {
			t.Error("laid new, read old", n)
		}
		got, _, ok := fmt1.Read(s, 2)
		if !ok || !same(got, inOld(n)) {
			t.Error("laid old", got, ok)
		}
		wantRead(t, "new", s, 1, n, upTo(blocksOf(n)))
	}
}

// P7.2: whether blocks are used is not what Read asks: the words of the inode and its blocks are.
func TestReadAsksNoBits(t *testing.T) {
	for _, n := range []api.Inode{file(400, 9, 8, 7, 6, 5, 10), apart(9), dir(24), dir(1, 2, 3, 4)} {
		s := tx.New(nil)
		wantLay(t, "laid", s, 2, n, api.OK)
		own := upTo(blocksOf(n))
		for k := range 4 {
			s.Put(816+k, 0)
		}
		wantRead(t, "no bits", s, 2, n, own)
		for k := range 4 {
			s.Put(816+k, math.MaxUint64)
		}
		wantRead(t, "all bits", s, 2, n, own)
	}
}

// P7.3: a file's own block may be given to its other runs, if nobody had said that it is used: it is read all the same.
func TestOthersInOwnBlock(t *testing.T) {
	n := file(832, 1, 3, 5, 7, 9, 11, 13)
	s := tx.New(nil)
	wantLay(t, "laid", s, 2, n, api.OK)
	wantRead(t, "laid", s, 2, n, []int{1})
}

// R4, R5: reading puts nothing; what is handed in is left, its spare room too; what is answered is new.
func TestNothingShared(t *testing.T) {
	room := dir(6, 6, 6, 6).Entries
	kept := slices.Clone(room)
	n := dirOf()
	n.Entries, n.Size = room[:11], 11
	other := but(n, func(n *api.Inode) {})
	s := tx.New(nil)
	wantLay(t, "laid", s, 1, n, api.OK)
	own := upTo(blocksOf(other))
	wantUntouched(t, "read", s, func() {
		got, own, _ := fmt2.Read(s, 1)
		clear(own[:cap(own)])
		clear(got.Entries[:cap(got.Entries)])
	})
	if !slices.Equal(room, kept) {
		t.Error("what was handed in is another", room)
	}
	clear(room)
	wantRead(t, "all cleared", s, 1, other, own)
	wantLay(t, "seven runs", s, 3, apart(7), api.OK)
	_, block, _ := fmt2.Read(s, 3)
	clear(block[:cap(block)])
	wantRead(t, "seven runs", s, 3, apart(7), []int{len(own) + 1})
}

// R7: sheets don't hang on one another.
func TestSheetsApart(t *testing.T) {
	words := using()
	a, b := tx.New(words), tx.New(words)
	wantLay(t, "the one", a, 1, dir(24), api.OK)
	wantSheet(t, "the other", b, words)
	wantNone(t, "the other", b, 1)
	wantLay(t, "the other", b, 1, apart(8), api.OK)
	wantRead(t, "the one", a, 1, dir(24), upTo(8))
	wantRead(t, "the other", b, 1, apart(8), []int{1})
}
