package tx_test

import (
	"slices"
	"testing"

	"imago/api"
	"imago/tx"
)

// model is the chapter's words anew: the words beneath, and each put that is left, gone through at each question.
type model struct {
	beneath []uint64
	puts    []api.Pair
}

func (m *model) words() []uint64 {
	l := slices.Clone(m.beneath)
	for _, x := range m.puts {
		l[x.At] = x.Word
	}
	return l
}

func (m *model) pairs() []api.Pair {
	var l []api.Pair
	for i, w := range m.words() {
		if w != m.beneath[i] {
			l = append(l, api.Pair{At: i, Word: w})
		}
	}
	return l
}

func (m *model) back(mark int) {
	for len(m.puts) > 0 && len(m.puts) > mark {
		m.puts = m.puts[:len(m.puts)-1]
	}
}

// dice is a fixed row of numbers, so that each run asks the same.
type dice uint64

func (d *dice) roll() uint64 {
	*d = *d*6364136223846793005 + 1442695040888963407
	w := uint64(*d)
	return w ^ w>>29
}

func (d *dice) upTo(n int) int {
	return int(d.roll() >> 33 % uint64(n))
}

// place is mostly one of a few, so that places are put over again; some are none.
func (d *dice) place() int {
	switch d.upTo(8) {
	case 0:
		return d.upTo(api.Words)
	case 1:
		return badPlaces[d.upTo(len(badPlaces))]
	}
	return goodPlaces[d.upTo(len(goodPlaces))]
}

// word is at times the one that is beneath, or there already.
func (d *dice) word(m *model, i int) uint64 {
	if i < 0 || i >= api.Words {
		return d.roll()
	}
	switch d.upTo(4) {
	case 0:
		return m.beneath[i]
	case 1:
		return m.words()[i]
	}
	return uint64(d.upTo(3))
}

// P4.1 and P4.3: puts and backs in any order, held against the model at each step.
func TestAgainstModel(t *testing.T) {
	d := dice(4)
	for range 30 {
		m := &model{beneath: make([]uint64, api.Words)}
		for i := range m.beneath {
			m.beneath[i] = uint64(d.upTo(3))
		}
		s := tx.New(m.beneath)
		for range 80 {
			step(&d, s, m)
			compare(t, s, m)
		}
	}
}

// step does one deed to both: a put, mostly, else a Back to a mark near to the puts there are.
func step(d *dice, s *tx.Sheet, m *model) {
	if d.upTo(6) == 0 {
		mark := len(m.puts) + 2 - d.upTo(8)
		s.Back(mark)
		m.back(mark)
		return
	}
	i := d.place()
	w := d.word(m, i)
	s.Put(i, w)
	if i >= 0 && i < api.Words {
		m.puts = append(m.puts, api.Pair{At: i, Word: w})
	}
}

func compare(t *testing.T, s *tx.Sheet, m *model) {
	t.Helper()
	words := m.words()
	want(t, "mark", s.Mark(), len(m.puts))
	wantWords(t, "words", s, words)
	wantPairs(t, "pairs", s, m.pairs()...)
	// P4.3: the pairs, put over the words beneath, are the words.
	over := slices.Clone(m.beneath)
	for _, x := range s.Pairs() {
		over[x.At] = x.Word
	}
	if !slices.Equal(over, s.Words()) {
		t.Error("the pairs over the words beneath aren't the words")
	}
}

// P4.3: for a list beneath that is shorter, or longer, than a sheet.
func TestPairsOverWords(t *testing.T) {
	d := dice(43)
	for _, n := range []int{0, 1, 100, api.Words - 1, api.Words, api.Words + 7} {
		beneath := numbered(n)
		s := tx.New(beneath)
		for range 500 {
			s.Put(d.place(), d.roll())
		}
		s.Back(400)
		over := make([]uint64, api.Words)
		copy(over, beneath)
		for _, x := range s.Pairs() {
			over[x.At] = x.Word
		}
		wantWords(t, "pairs over words", s, over)
	}
}
