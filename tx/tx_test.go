package tx_test

import (
	"math"
	"slices"
	"testing"

	"imago/api"
	"imago/tx"
)

// goodPlaces and badPlaces are the edges of what a sheet has a word at.
var (
	goodPlaces = []int{
		0, 1, 2, api.LogAt - 1, api.LogAt, 400, api.BitsAt - 1, api.BitsAt, api.InodesAt - 1, api.InodesAt,
		api.BlocksAt - 1, api.BlocksAt, api.Words - 2, api.Words - 1,
	}
	badPlaces = []int{
		math.MinInt, math.MinInt + 5, -1 << 32, -api.Words, -2, -1,
		api.Words, api.Words + 1, 1 << 31, 1<<32 + 5, 1<<62 + 5, math.MaxInt,
	}
)

func want(t *testing.T, what string, got, want any) {
	t.Helper()
	if got != want {
		t.Errorf("%s: got %v, want %v", what, got, want)
	}
}

// wantWords asks a sheet for all words, by Words and by Get, and tells of the first one that is another.
func wantWords(t *testing.T, what string, s *tx.Sheet, want []uint64) {
	t.Helper()
	got := s.Words()
	if len(got) != api.Words || len(want) != api.Words {
		t.Errorf("%s: %d words, want %d", what, len(got), len(want))
		return
	}
	for i := range got {
		if got[i] != want[i] || s.Get(i) != want[i] {
			t.Errorf("%s: the word %d is %x, Get %x, want %x", what, i, got[i], s.Get(i), want[i])
			return
		}
	}
}

func wantPairs(t *testing.T, what string, s *tx.Sheet, want ...api.Pair) {
	t.Helper()
	if got := s.Pairs(); !slices.Equal(got, want) {
		t.Errorf("%s: pairs %v, want %v", what, got, want)
	}
}

// numbered are n words, none of which is 0, and no two are the same.
func numbered(n int) []uint64 {
	l := make([]uint64, n)
	for i := range l {
		l[i] = uint64(i+1) * 0x0101010101010101
	}
	return l
}

// P4.1: a sheet's words are the first ones of those beneath; noughts where there are fewer.
func TestNew(t *testing.T) {
	for _, n := range []int{0, 1, 2, 8, api.BitsAt, api.Words - 1, api.Words, api.Words + 1, 2 * api.Words} {
		beneath := numbered(n)
		words := make([]uint64, api.Words)
		copy(words, beneath)
		s := tx.New(beneath)
		wantWords(t, "new", s, words)
		wantPairs(t, "new", s)
		want(t, "mark of a new sheet", s.Mark(), 0)
	}
	s := tx.New(nil)
	wantWords(t, "over nil", s, make([]uint64, api.Words))
	wantPairs(t, "over nil", s)
	want(t, "mark over nil", s.Mark(), 0)
}

// P4.1: the words are a copy: neither of the two changes with the other. R5: spare room isn't read, nor written.
func TestNewCopies(t *testing.T) {
	whole := numbered(api.Words + 10)
	for _, n := range []int{3, api.Words, api.Words + 5} {
		handed := slices.Clone(whole)
		s := tx.New(handed[:n])
		words := s.Words()
		for i := n; i < api.Words; i++ {
			want(t, "a word out of the spare room", words[i], uint64(0))
		}
		for i := range api.Words {
			s.Put(i, 7)
		}
		if !slices.Equal(handed, whole) {
			t.Error(n, "words: the list that was handed in is another")
		}
		s.Back(0)
		clear(handed)
		wantWords(t, "the list cleared", s, words)
		wantPairs(t, "the list cleared", s)
	}
}

// P4.1: what was put last is told, at each edge, and no other word is another.
func TestGetPut(t *testing.T) {
	beneath := numbered(api.Words)
	for _, i := range goodPlaces {
		s := tx.New(beneath)
		words := slices.Clone(beneath)
		for _, w := range []uint64{1, math.MaxUint64, 0, 1 << 63, beneath[i], 5} {
			s.Put(i, w)
			words[i] = w
			want(t, "get", s.Get(i), w)
			wantWords(t, "put", s, words)
		}
	}
}

// P4.1: of no place there is 0, and nothing is put there, nor counted.
func TestNoPlace(t *testing.T) {
	beneath := numbered(api.Words)
	s := tx.New(beneath)
	s.Put(5, 1)
	for _, i := range badPlaces {
		want(t, "get of no place", s.Get(i), uint64(0))
		s.Put(i, 9)
		want(t, "get of no place, put", s.Get(i), uint64(0))
		want(t, "mark", s.Mark(), 1)
		wantPairs(t, "no place", s, api.Pair{At: 5, Word: 1})
	}
	s.Back(1)
	want(t, "the last put that counts", s.Get(5), uint64(1))
	s.Back(0)
	wantWords(t, "undone", s, beneath)
}

// P4.1: pairs are rising, however the puts came, one a place, with what it is.
func TestPairs(t *testing.T) {
	beneath := numbered(api.Words)
	s := tx.New(beneath)
	var all []api.Pair
	for k, i := range goodPlaces {
		all = append(all, api.Pair{At: i, Word: uint64(1000 + k)})
	}
	for _, x := range slices.Backward(all) {
		s.Put(x.At, 3)
	}
	for _, x := range slices.Backward(all) {
		s.Put(x.At, x.Word)
	}
	wantPairs(t, "all edges", s, all...)
	want(t, "mark", s.Mark(), 2*len(all))

	s.Put(all[3].At, beneath[all[3].At])
	wantPairs(t, "one as it was beneath", s, slices.Delete(slices.Clone(all), 3, 4)...)
	s.Put(all[3].At, 1)
	all[3].Word = 1
	wantPairs(t, "and another again", s, all...)
}

// P4.1: a place that becomes 0, or was 0, is a pair like others; one that is put as it is, is none.
func TestPairsOfNought(t *testing.T) {
	s := tx.New([]uint64{5, 0, 6})
	s.Put(0, 0)
	s.Put(1, 7)
	s.Put(2, 6)
	s.Put(3, 0)
	wantPairs(t, "noughts", s, api.Pair{At: 0, Word: 0}, api.Pair{At: 1, Word: 7})
	want(t, "puts that change nothing count", s.Mark(), 4)
	s.Put(0, 5)
	s.Put(1, 0)
	wantPairs(t, "all as beneath", s)
	want(t, "mark", s.Mark(), 6)
}

// P4.1: all places at once.
func TestPairsOfAll(t *testing.T) {
	s := tx.New(nil)
	words := numbered(api.Words)
	var l []api.Pair
	for i, w := range words {
		s.Put(i, w)
		l = append(l, api.Pair{At: i, Word: w})
	}
	wantPairs(t, "all", s, l...)
	wantWords(t, "all", s, words)
}

// P4.1: the chapter's example.
func TestExample(t *testing.T) {
	beneath := numbered(api.Words)
	s := tx.New(beneath)
	s.Put(0, 1)
	s.Put(1, 2)
	s.Put(2, 3)
	want(t, "mark", s.Mark(), 3)
	s.Back(0)
	want(t, "mark", s.Mark(), 0)
	wantWords(t, "back", s, beneath)
	wantPairs(t, "back", s)

	s.Put(3, 4)
	s.Back(0)
	wantWords(t, "back of one", s, beneath)
	wantPairs(t, "back of one", s)
}

// P4.1: Back leaves so many puts, the nearer end where there aren't so many.
func TestBack(t *testing.T) {
	puts := []api.Pair{{At: 9, Word: 1}, {At: 4, Word: 2}, {At: 9, Word: 3}, {At: 3127, Word: 4}, {At: 9, Word: 1}, {At: 4, Word: 0}}
	marks := map[int]int{
		math.MinInt: 0, -1 << 32: 0, -7: 0, -1: 0, 0: 0, 1: 1, 2: 2, 3: 3, 4: 4, 5: 5, 6: 6,
		7: 6, 1 << 31: 6, 1<<32 + 1: 6, math.MaxInt: 6,
	}
	beneath := numbered(api.Words)
	for mark, left := range marks {
		s := tx.New(beneath)
		for k, x := range puts {
			want(t, "mark", s.Mark(), k)
			s.Put(x.At, x.Word)
		}
		s.Back(mark)
		words := slices.Clone(beneath)
		for _, x := range puts[:left] {
			words[x.At] = x.Word
		}
		want(t, "mark behind back", s.Mark(), left)
		wantWords(t, "back", s, words)
		s.Back(mark)
		want(t, "mark behind the same back", s.Mark(), left)
		wantWords(t, "back again", s, words)
	}
}

// P4.1: the last put is undone first, so that a place has its oldest word in the end.
func TestBackOfOnePlace(t *testing.T) {
	s := tx.New([]uint64{10})
	for k := range 20 {
		s.Put(0, uint64(k))
	}
	for k := 19; k > 0; k-- {
		s.Back(k)
		want(t, "one put less", s.Get(0), uint64(k-1))
		want(t, "mark", s.Mark(), k)
	}
	s.Back(0)
	want(t, "none", s.Get(0), uint64(10))
	for k := range 20 {
		s.Put(0, uint64(k))
	}
	s.Back(0)
	want(t, "none, in one go", s.Get(0), uint64(10))
}

// P4.1: puts behind a Back take the place of those undone: a mark that was above them tells nothing of those.
func TestPutBehindBack(t *testing.T) {
	s := tx.New(nil)
	s.Put(1, 1)
	s.Put(2, 2)
	s.Put(3, 3)
	s.Back(1)
	s.Put(4, 4)
	want(t, "mark", s.Mark(), 2)
	s.Back(3)
	wantPairs(t, "a mark above", s, api.Pair{At: 1, Word: 1}, api.Pair{At: 4, Word: 4})
	s.Back(1)
	wantPairs(t, "to the first", s, api.Pair{At: 1, Word: 1})
	s.Back(-1)
	wantPairs(t, "to none", s)
	want(t, "mark", s.Mark(), 0)
}

// P4.2: each block's and each inode's place, and none of what is none.
func TestBlockAndInode(t *testing.T) {
	for b := range 256 {
		want(t, "block", tx.Block(b), 1080+8*b)
	}
	for i := range 32 {
		want(t, "inode", tx.Inode(i), 824+8*i)
	}
	want(t, "the last block's end", tx.Block(255)+8, api.Words)
	want(t, "the last inode's end", tx.Inode(31)+8, tx.Block(0))
	none := []int{
		math.MinInt, math.MinInt / 8, -1 << 61, -1 << 32, -257, -256, -33, -32, -2, -1,
		256, 257, 1000, 1080, 1 << 31, 1 << 32, 1<<32 + 1, 1 << 61, 1<<61 + 1, math.MaxInt / 8, math.MaxInt,
	}
	for _, n := range none {
		want(t, "no block", tx.Block(n), -1)
		want(t, "no inode", tx.Inode(n), -1)
	}
	for _, n := range []int{32, 33, 255} {
		want(t, "no inode", tx.Inode(n), -1)
	}
}

// R5: what is answered is new memory, each time.
func TestAnswersAreNew(t *testing.T) {
	s := tx.New(numbered(api.Words))
	s.Put(0, 5)
	s.Put(7, 6)
	words, pairs := s.Words(), s.Pairs()
	keptWords, keptPairs := slices.Clone(words), slices.Clone(pairs)
	clear(words)
	clear(pairs)
	wantWords(t, "the answer cleared", s, keptWords)
	wantPairs(t, "the answer cleared", s, keptPairs...)

	words, pairs = s.Words(), s.Pairs()
	s.Put(0, 8)
	s.Back(0)
	if !slices.Equal(words, keptWords) || !slices.Equal(pairs, keptPairs) {
		t.Error("an answer changed with the sheet")
	}
}

// R7: two sheets, over the same words, or one over what another told.
func TestSheetsApart(t *testing.T) {
	beneath := numbered(api.Words)
	a, b := tx.New(beneath), tx.New(beneath)
	a.Put(3, 1)
	wantWords(t, "the other", b, beneath)
	want(t, "the other's mark", b.Mark(), 0)
	b.Put(4, 2)
	a.Back(0)
	wantPairs(t, "the other", b, api.Pair{At: 4, Word: 2})

	c := tx.New(b.Words())
	wantPairs(t, "over another's words", c)
	b.Back(0)
	want(t, "over another's words", c.Get(4), uint64(2))
	c.Put(4, 3)
	want(t, "beneath", b.Get(4), beneath[4])
}

// R1: a sheet that New didn't make is one over noughts.
func TestZeroSheet(t *testing.T) {
	var s tx.Sheet
	s.Back(3)
	want(t, "mark", s.Mark(), 0)
	wantWords(t, "zero", &s, make([]uint64, api.Words))
	s.Put(1, 2)
	wantPairs(t, "zero", &s, api.Pair{At: 1, Word: 2})
	s.Back(0)
	wantPairs(t, "zero", &s)
}
