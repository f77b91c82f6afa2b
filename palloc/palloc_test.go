package palloc_test

import (
	"math"
	"slices"
	"testing"

	"imago/api"
	"imago/palloc"
	"imago/tx"
)

// edges are the blocks at the ends of the words of the bits, and some between.
var edges = []int{1, 2, 31, 32, 33, 62, 63, 64, 65, 100, 126, 127, 128, 129, 190, 191, 192, 193, 253, 254, 255}

// noBlocks are numbers that are no block's; some would be one's, if bits of them were lost.
var noBlocks = []int{
	math.MinInt, math.MinInt + 5, math.MinInt + 64, -1 << 32, -1<<32 + 5, -257, -256, -255, -65, -64, -63, -5, -2, -1,
	256, 257, 260, 319, 320, 512, 1080, api.Words, 1 << 31, 1 << 32, 1<<32 + 5, 1<<62 + 5, math.MaxInt - 1, math.MaxInt,
}

func want(t *testing.T, what string, got, want any) {
	t.Helper()
	if got != want {
		t.Errorf("%s: got %v, want %v", what, got, want)
	}
}

// wantSheet asks for all words of a sheet, and tells of the first one that is another.
func wantSheet(t *testing.T, what string, s *tx.Sheet, want []uint64) {
	t.Helper()
	for i, w := range s.Words() {
		if w != want[i] {
			t.Errorf("%s: the word %d is %x, want %x", what, i, w, want[i])
			return
		}
	}
}

func wantTake(t *testing.T, what string, s *tx.Sheet, n int, want []int, e api.Errno) {
	t.Helper()
	if got, gotE := palloc.Take(s, n); !slices.Equal(got, want) || gotE != e {
		t.Errorf("%s: take %d: %v, %v, want %v, %v", what, n, got, gotE, want, e)
	}
}

func wantRun(t *testing.T, what string, s *tx.Sheet, n, want int, e api.Errno) {
	t.Helper()
	if got, gotE := palloc.Run(s, n); got != want || gotE != e {
		t.Errorf("%s: run of %d: %v, %v, want %v, %v", what, n, got, gotE, want, e)
	}
}

// wantUntouched asks that a deed puts nothing, not even what is there already.
func wantUntouched(t *testing.T, what string, s *tx.Sheet, deed func()) {
	t.Helper()
	mark, words := s.Mark(), s.Words()
	deed()
	want(t, what+", puts", s.Mark()-mark, 0)
	wantSheet(t, what, s, words)
}

// filled are words none of which is 0, but for the four of the bits, by which no block is used.
func filled() []uint64 {
	l := make([]uint64, api.Words)
	for i := range l {
		l[i] = uint64(i)*0x9e3779b97f4a7c15 | 1
	}
	clear(l[api.BitsAt : api.BitsAt+4])
	return l
}

// using are filled words by which just these blocks are used: the chapter's sentence, anew.
func using(blocks ...int) []uint64 {
	l := filled()
	for _, b := range blocks {
		l[816+b/64] |= uint64(math.Pow(2, float64(b%64)))
	}
	return l
}

// numbers are all from a to b.
func numbers(a, b int) []int {
	var l []int
	for k := a; k <= b; k++ {
		l = append(l, k)
	}
	return l
}

// except are all from a to b, but these.
func except(a, b int, but ...int) []int {
	return slices.DeleteFunc(numbers(a, b), func(k int) bool { return slices.Contains(but, k) })
}

// emptied puts noughts in the words of blocks.
func emptied(words []uint64, blocks ...int) []uint64 {
	l := slices.Clone(words)
	for _, b := range blocks {
		clear(l[1080+8*b : 1080+8*b+8])
	}
	return l
}

// P5.1: each block has a bit of its own, the block 0 too.
func TestUsed(t *testing.T) {
	for b := range 256 {
		s := tx.New(using(b))
		for other := range 256 {
			want(t, "used, one bit set", palloc.Used(s, other), other == b)
		}
		s = tx.New(using(except(0, 255, b)...))
		want(t, "used, all others set", palloc.Used(s, b), false)
	}
}

// P5.1: what is no block is used, whatever the bits are.
func TestUsedOfNone(t *testing.T) {
	for _, words := range [][]uint64{nil, filled(), using(numbers(0, 255)...)} {
		s := tx.New(words)
		for _, b := range noBlocks {
			wantUntouched(t, "used of none", s, func() {
				if !palloc.Used(s, b) {
					t.Error(b, "isn't used")
				}
			})
		}
	}
}

// P5.1: one bit is set, or taken back, and nothing else is otherwise.
func TestSet(t *testing.T) {
	for b := 1; b <= 255; b++ {
		s := tx.New(filled())
		for range 2 {
			palloc.Set(s, b, true)
			wantSheet(t, "set", s, using(b))
		}
		for range 2 {
			palloc.Set(s, b, false)
			wantSheet(t, "taken back", s, filled())
		}
		all := using(numbers(0, 255)...)
		s = tx.New(all)
		palloc.Set(s, b, false)
		wantSheet(t, "taken back of all", s, using(except(0, 255, b)...))
		palloc.Set(s, b, true)
		wantSheet(t, "set of all", s, all)
	}
}

// P5.1: nothing is put of what is no block, nor of the block 0, whether its bit is set or not.
func TestSetOfNone(t *testing.T) {
	for _, words := range [][]uint64{nil, filled(), using(0), using(numbers(0, 255)...)} {
		s := tx.New(words)
		for _, b := range append([]int{0}, noBlocks...) {
			wantUntouched(t, "set of none", s, func() { palloc.Set(s, b, true) })
			wantUntouched(t, "taken back of none", s, func() { palloc.Set(s, b, false) })
		}
	}
}

// P5.1: of 1 to 255 those that aren't used; the block 0, and the words behind the bits, don't count.
func TestFree(t *testing.T) {
	cases := map[string]struct {
		words []uint64
		want  int
	}{
		"noughts":            {nil, 255},
		"none used":          {filled(), 255},
		"the block 0":        {using(0), 255},
		"the block 1":        {using(1), 254},
		"the block 255":      {using(255), 254},
		"edges":              {using(edges...), 255 - len(edges)},
		"all":                {using(numbers(0, 255)...), 0},
		"all but the 0":      {using(numbers(1, 255)...), 0},
		"all but one":        {using(except(0, 255, 255)...), 1},
		"all but 0 and one":  {using(except(1, 255, 64)...), 1},
		"one word":           {using(numbers(64, 127)...), 191},
		"the first word":     {using(numbers(0, 63)...), 192},
		"all but a word":     {using(except(0, 255, numbers(128, 191)...)...), 64},
		"all of the last":    {using(numbers(192, 255)...), 191},
		"all but the first":  {using(numbers(64, 255)...), 63},
		"all but 0 to 63, 0": {using(append(numbers(64, 255), 0)...), 63},
	}
	for name, c := range cases {
		s := tx.New(c.words)
		wantUntouched(t, name, s, func() { want(t, name, palloc.Free(s), c.want) })
	}
}

// P5.1: the chapter's example.
func TestExample(t *testing.T) {
	wantTake(t, "none used", tx.New(nil), 2, []int{1, 2}, api.OK)
}

// P5.1: n below 0 is ErrArg, ahead of everything, and nothing is put.
func TestTakeBelowNought(t *testing.T) {
	for _, words := range [][]uint64{nil, filled(), using(numbers(0, 255)...)} {
		s := tx.New(words)
		for _, n := range []int{-1, -2, -255, -1<<32 + 1, math.MinInt + 1, math.MinInt} {
			wantUntouched(t, "take", s, func() { wantTake(t, "below 0", s, n, nil, api.ErrArg) })
		}
	}
}

// P5.1: none is taken of none, also where none is free.
func TestTakeNone(t *testing.T) {
	for _, words := range [][]uint64{nil, filled(), using(numbers(0, 255)...)} {
		s := tx.New(words)
		wantUntouched(t, "take 0", s, func() { wantTake(t, "none", s, 0, nil, api.OK) })
	}
}

// P5.1: the first that are free, with noughts in their words; no other word is otherwise.
func TestTake(t *testing.T) {
	cases := map[string]struct {
		used []int
		n    int
		want []int
	}{
		"one":                {nil, 1, []int{1}},
		"three":              {nil, 3, []int{1, 2, 3}},
		"up to a word's end": {nil, 63, numbers(1, 63)},
		"across it":          {nil, 64, numbers(1, 64)},
		"two words":          {nil, 127, numbers(1, 127)},
		"all":                {nil, 255, numbers(1, 255)},
		"all, the 0 used":    {[]int{0}, 255, numbers(1, 255)},
		"behind the first":   {[]int{1}, 1, []int{2}},
		"gaps":               {[]int{1, 3, 4, 7}, 4, []int{2, 5, 6, 8}},
		"around a word's end": {
			except(1, 255, 5, 62, 63, 64, 65, 66), 5, []int{5, 62, 63, 64, 65},
		},
		"words that are full": {except(0, 255, 3, 250, 255), 3, []int{3, 250, 255}},
		"but a few left":      {except(0, 255, 3, 250, 255), 2, []int{3, 250}},
		"the last block":      {except(0, 255, 255), 1, []int{255}},
		"the last, 0 free":    {except(1, 255, 255), 1, []int{255}},
		"ends of words":       {except(0, 255, 63, 64, 127, 128, 191, 192), 6, []int{63, 64, 127, 128, 191, 192}},
	}
	for name, c := range cases {
		s := tx.New(using(c.used...))
		wantTake(t, name, s, c.n, c.want, api.OK)
		wantSheet(t, name, s, emptied(using(append(slices.Clone(c.used), c.want...)...), c.want...))
		for _, b := range c.want {
			want(t, name+", used", palloc.Used(s, b), true)
		}
	}
}

// P5.1: as many as are free, and one more: ErrSpace, nothing is put; behind it all can still be taken.
func TestTakeOneMore(t *testing.T) {
	for _, used := range [][]int{nil, {0}, edges, numbers(1, 254), numbers(0, 254), except(0, 255, 63, 64), numbers(0, 255), numbers(1, 255)} {
		free := except(1, 255, used...)
		s := tx.New(using(used...))
		for _, n := range []int{len(free) + 1, len(free) + 2, 256, 257, 1 << 32, 1<<32 + 1, math.MaxInt} {
			wantUntouched(t, "take", s, func() { wantTake(t, "more than free", s, n, nil, api.ErrSpace) })
		}
		wantTake(t, "as many as are free", s, len(free), free, api.OK)
		want(t, "free then", palloc.Free(s), 0)
		wantUntouched(t, "take", s, func() { wantTake(t, "none free", s, 1, nil, api.ErrSpace) })
		wantUntouched(t, "take 0", s, func() { wantTake(t, "none free", s, 0, nil, api.OK) })
	}
}

// P5.1: one behind the other, blocks come by their numbers, till none is left.
func TestTakeOneByOne(t *testing.T) {
	s := tx.New(using(edges...))
	for _, b := range except(1, 255, edges...) {
		wantTake(t, "one by one", s, 1, []int{b}, api.OK)
	}
	wantTake(t, "the end", s, 1, nil, api.ErrSpace)
}

// P5.1: n below 1 is ErrArg.
func TestRunBelowOne(t *testing.T) {
	for _, words := range [][]uint64{nil, filled(), using(numbers(0, 255)...)} {
		s := tx.New(words)
		for _, n := range []int{0, -1, -2, -255, -1<<32 + 1, math.MinInt + 1, math.MinInt} {
			wantUntouched(t, "run", s, func() { wantRun(t, "below 1", s, n, 0, api.ErrArg) })
		}
	}
}

// P5.1: where the first blocks begin that are free, one behind the other; ErrSpace, where so many aren't.
func TestRun(t *testing.T) {
	cases := map[string]struct {
		used []int
		n    int
		want int // 0: ErrSpace
	}{
		"one":                     {nil, 1, 1},
		"two":                     {nil, 2, 1},
		"all":                     {nil, 255, 1},
		"all, the 0 used":         {[]int{0}, 255, 1},
		"one more":                {nil, 256, 0},
		"many more":               {nil, 1 << 40, 0},
		"most":                    {nil, math.MaxInt, 0},
		"none free":               {numbers(0, 255), 1, 0},
		"the 0 alone free":        {numbers(1, 255), 1, 0},
		"the 0 and another":       {except(0, 255, 0, 1), 2, 0},
		"just one":                {except(0, 255, 1), 1, 1},
		"behind one":              {[]int{1}, 3, 2},
		"the first of two":        {[]int{4, 8}, 3, 1},
		"the second of two":       {[]int{3, 8}, 3, 4},
		"just fits":               {[]int{3, 8}, 4, 4},
		"fits not":                {[]int{3, 8}, 5, 9},
		"up to the end":           {[]int{3, 8}, 247, 9},
		"beyond the end":          {[]int{3, 8}, 248, 0},
		"the last":                {numbers(0, 254), 1, 255},
		"the last, two":           {numbers(0, 254), 2, 0},
		"across a word's end":     {except(0, 255, 63, 64), 2, 63},
		"across it, one more":     {except(0, 255, 63, 64), 3, 0},
		"across another":          {except(0, 255, numbers(126, 130)...), 5, 126},
		"across three words":      {except(0, 255, numbers(60, 195)...), 136, 60},
		"across three, one more":  {except(0, 255, numbers(60, 195)...), 137, 0},
		"a whole word":            {except(0, 255, numbers(64, 127)...), 64, 64},
		"a whole word, one more":  {except(0, 255, numbers(64, 127)...), 65, 0},
		"a full word between":     {append(numbers(1, 62), numbers(64, 127)...), 2, 128},
		"one, full words between": {except(0, 255, 63, 192), 2, 0},
		"all behind the first":    {numbers(0, 63), 192, 64},
		"all but the last word":   {numbers(192, 255), 191, 1},
		"the last of a word used": {[]int{63}, 63, 64},
		"the first of one used":   {[]int{64}, 64, 65},
		"each second one":         {except(1, 255, 2, 4, 6, 8, 10), 2, 0},
		"longer ones come later":  {[]int{2, 5, 9, 14, 20}, 5, 15},
		"the end of the last one": {numbers(1, 250), 5, 251},
		"more than the last one":  {numbers(1, 250), 6, 0},
		"the block 255 used":      {[]int{255}, 254, 1},
		"the block 255 used, all": {[]int{255}, 255, 0},
		"the block 1 used":        {[]int{1}, 254, 2},
		"the block 1 used, all":   {[]int{1}, 255, 0},
	}
	for name, c := range cases {
		s := tx.New(using(c.used...))
		e := api.OK
		if c.want == 0 {
			e = api.ErrSpace
		}
		wantUntouched(t, name, s, func() { wantRun(t, name, s, c.n, c.want, e) })
	}
}

// P5.1: a run alone among used blocks is found wherever it begins, and however long it is.
func TestRunEverywhere(t *testing.T) {
	for _, first := range edges {
		for _, last := range edges {
			if last < first {
				continue
			}
			n := last - first + 1
			s := tx.New(using(except(0, 255, numbers(first, last)...)...))
			wantRun(t, "alone", s, n, first, api.OK)
			wantRun(t, "alone", s, 1, first, api.OK)
			wantRun(t, "alone, one more", s, n+1, 0, api.ErrSpace)
		}
	}
}

// P5.1: each of a list isn't used then, however it stands there; their words stay as they are.
func TestGive(t *testing.T) {
	all := numbers(0, 255)
	cases := map[string]struct{ l, left []int }{
		"nil":           {nil, all},
		"empty":         {[]int{}, all},
		"one":           {[]int{7}, except(0, 255, 7)},
		"edges":         {edges, except(0, 255, edges...)},
		"falling":       {[]int{255, 64, 63, 1}, except(0, 255, 1, 63, 64, 255)},
		"twice":         {[]int{9, 8, 9, 9}, except(0, 255, 8, 9)},
		"the 0":         {[]int{0}, all},
		"the 0 between": {[]int{5, 0, 6}, except(0, 255, 5, 6)},
		"no blocks":     {noBlocks, all},
		"some of none":  {[]int{-1, 5, 256, 6, math.MinInt, 255, math.MaxInt}, except(0, 255, 5, 6, 255)},
		"all":           {numbers(0, 255), []int{0}},
	}
	for name, c := range cases {
		s := tx.New(using(all...))
		room := append(slices.Clone(c.l), 11, 12, 13)
		handed := room[:len(c.l)]
		palloc.Give(s, handed)
		wantSheet(t, name, s, using(c.left...))
		palloc.Give(s, handed)
		wantSheet(t, name+", again", s, using(c.left...))
		if !slices.Equal(room, append(slices.Clone(c.l), 11, 12, 13)) {
			t.Error(name, "what was handed in is another", room)
		}
	}
	s := tx.New(filled())
	palloc.Give(s, numbers(0, 255))
	wantSheet(t, "none used", s, filled())
}

// R5: what Take answers is new memory, each time.
func TestTakenIsNew(t *testing.T) {
	s := tx.New(nil)
	l, _ := palloc.Take(s, 3)
	clear(l[:cap(l)])
	wantTake(t, "the answer cleared", s, 3, []int{4, 5, 6}, api.OK)
	want(t, "used", palloc.Used(s, 1), true)
}

// R7: sheets don't hang on one another.
func TestSheetsApart(t *testing.T) {
	words := using(1)
	a, b := tx.New(words), tx.New(words)
	wantTake(t, "one", a, 2, []int{2, 3}, api.OK)
	wantSheet(t, "the other", b, using(1))
	wantTake(t, "the other", b, 1, []int{2}, api.OK)
	palloc.Give(b, []int{1, 2})
	wantTake(t, "the first again", a, 1, []int{4}, api.OK)
}
