package row_test

import (
	"math"
	"slices"
	"testing"

	"imago/api"
	"imago/row"
	"imago/tx"
)

// What is put in a place is read from it, and nowhere else.
func TestPutAt(t *testing.T) {
	s := tx.New(nil)
	w := row.Row{1, 2, 3, 4, 5, 6, 7, math.MaxUint64}
	row.Put(s, tx.Block(9), w)
	if row.At(s, tx.Block(9)) != w || row.At(s, tx.Block(8)) != (row.Row{}) || row.At(s, tx.Block(10)) != (row.Row{}) {
		t.Error("put", row.At(s, tx.Block(8)), row.At(s, tx.Block(9)), row.At(s, tx.Block(10)))
	}
	if len(s.Pairs()) != 8 {
		t.Error("so many words are otherwise:", len(s.Pairs()))
	}
}

// Tags and sizes come again; a tag's upper bits don't show.
func TestHead(t *testing.T) {
	n := api.Inode{Format: api.New, Kind: api.Dir, Links: 0xabcd, Size: 24}
	w := row.Head(n)
	if w != (row.Row{0xabcd0202, 24}) {
		t.Errorf("the head is %x", w)
	}
	w[0] += 1 << 40
	got := row.Headed(w)
	if got.Format != n.Format || got.Kind != n.Kind || got.Links != n.Links || got.Size != n.Size {
		t.Error("headed", got)
	}
}

// Entries come again of their words; of other words there are none.
func TestEntries(t *testing.T) {
	l := []api.Entry{{Name: "a", Ino: 31}, {Name: "abcdefg", Ino: 0}}
	words := row.Entries(l)
	if !slices.Equal(words, []uint64{0x0100000000000061, 31, 0x0767666564636261, 0}) {
		t.Errorf("the words are %x", words)
	}
	if got, ok := row.EntriesOf(words); !ok || !slices.Equal(got, l) {
		t.Error("entries", got, ok)
	}
	if got, ok := row.EntriesOf(nil); !ok || len(got) != 0 {
		t.Error("of no words", got, ok)
	}
	for k, wrong := range []uint64{0, 32, 0x0100000000006261, math.MaxUint64} {
		bent := slices.Clone(words)
		bent[k] = wrong
		if got, ok := row.EntriesOf(bent); ok || got != nil {
			t.Error("bent", got, ok)
		}
	}
}

func TestParts(t *testing.T) {
	for much, want := range []int{0, 1, 1, 1, 2, 2, 2, 3} {
		if got := row.Parts(much, 3); got != want {
			t.Error(much, "are", got, "parts, want", want)
		}
	}
}
