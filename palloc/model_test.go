package palloc_test

import (
	"slices"
	"testing"

	"imago/api"
	"imago/palloc"
	"imago/tx"
)

// model is the chapter's words anew: which blocks are used, and all words, but for the bits, gone through one by one.
type model struct {
	used  [256]bool
	words []uint64
}

func (m *model) free() []int {
	var l []int
	for b := 1; b <= 255; b++ {
		if !m.used[b] {
			l = append(l, b)
		}
	}
	return l
}

func (m *model) take(n int) ([]int, api.Errno) {
	free := m.free()
	if n < 0 {
		return nil, api.ErrArg
	}
	if len(free) < n {
		return nil, api.ErrSpace
	}
	for _, b := range free[:n] {
		m.used[b] = true
		m.words = emptied(m.words, b)
	}
	return free[:n], api.OK
}

// run tries each block as the first one.
func (m *model) run(n int) (int, api.Errno) {
	if n < 1 {
		return 0, api.ErrArg
	}
	for first := 1; first+n <= 256; first++ {
		if !slices.Contains(m.used[first:first+n], true) {
			return first, api.OK
		}
	}
	return 0, api.ErrSpace
}

func (m *model) set(b int, used bool) {
	if b >= 1 && b <= 255 {
		m.used[b] = used
	}
}

// all tells the words with the bits in them.
func (m *model) all() []uint64 {
	l := slices.Clone(m.words)
	for b, used := range m.used {
		if used {
			l[api.BitsAt+b/64] += 1 << (b % 64)
		}
	}
	return l
}

// dice is a fixed row of numbers, so that each run asks the same.
type dice uint64

func (d *dice) roll() uint64 {
	*d = *d*6364136223846793005 + 1442695040888963407
	w := uint64(*d)
	return w ^ w>>29
}

func (d *dice) upTo(n int) int {
	return int(d.roll() >> 33 % uint64(n))
}

// block is mostly one; some are at the ends of words, some are none.
func (d *dice) block() int {
	switch d.upTo(8) {
	case 0:
		return noBlocks[d.upTo(len(noBlocks))]
	case 1, 2:
		return edges[d.upTo(len(edges))]
	}
	return d.upTo(256)
}

// model rolls a sheet of which one block in so many is used, at times in stretches.
func (d *dice) model() *model {
	m := &model{words: filled()}
	thin := 1 + d.upTo(6)
	for b := range m.used {
		m.used[b] = d.upTo(thin) == 0
	}
	for range d.upTo(4) {
		from, used := d.upTo(256), d.upTo(2) == 0
		for b := from; b < min(256, from+d.upTo(130)); b++ {
			m.used[b] = used
		}
	}
	return m
}

// P5.1 and P5.2: calls in any order, held against the model at each step.
func TestAgainstModel(t *testing.T) {
	d := dice(5)
	for range 150 {
		m := d.model()
		s := tx.New(m.all())
		for range 25 {
			step(t, &d, s, m)
			want(t, "free", palloc.Free(s), len(m.free()))
			wantSheet(t, "a step", s, m.all())
			b := d.block()
			want(t, "used", palloc.Used(s, b), b < 0 || b > 255 || m.used[b])
			n := d.upTo(40) - 2
			first, e := m.run(n)
			wantRun(t, "model", s, n, first, e)
		}
	}
}

// step does one deed to both.
func step(t *testing.T, d *dice, s *tx.Sheet, m *model) {
	switch d.upTo(4) {
	case 0:
		b, used := d.block(), d.upTo(2) == 0
		palloc.Set(s, b, used)
		m.set(b, used)
	case 1:
		l := make([]int, d.upTo(30))
		for k := range l {
			l[k] = d.block()
			m.set(l[k], false)
		}
		palloc.Give(s, l)
	default:
		n := d.upTo(50) - 2
		l, e := m.take(n)
		wantTake(t, "model", s, n, l, e)
	}
}

// P5.1: all lengths of runs, over many sheets.
func TestRunAgainstModel(t *testing.T) {
	d := dice(51)
	for range 200 {
		m := d.model()
		s := tx.New(m.all())
		for n := -1; n <= 258; n++ {
			first, e := m.run(n)
			wantRun(t, "model", s, n, first, e)
		}
	}
}

// P5.2: what is taken wasn't used; given back, all is as it was, where the blocks that were free had noughts.
func TestThereAndBack(t *testing.T) {
	d := dice(52)
	for range 200 {
		m := d.model()
		before := emptied(m.all(), m.free()...)
		s := tx.New(before)
		n := d.upTo(len(m.free()) + 1)
		l, e := palloc.Take(s, n)
		want(t, "take", e, api.OK)
		want(t, "how many", len(l), n)
		for k, b := range l {
			if b < 1 || b > 255 || m.used[b] || k > 0 && l[k-1] >= b {
				t.Error("taken in spite of being used, or not rising", l)
			}
			want(t, "used", palloc.Used(s, b), true)
		}
		want(t, "free", palloc.Free(s), len(m.free())-n)
		slices.Reverse(l)
		palloc.Give(s, l)
		wantSheet(t, "given back", s, before)
		want(t, "pairs", len(s.Pairs()), 0)
	}
}

// P5.2: in parts, given back in another order, with words in the blocks: the bits are as they were.
func TestBackInParts(t *testing.T) {
	s := tx.New(using(edges...))
	var parts [][]int
	for _, n := range []int{1, 60, 0, 64, 5} {
		l, e := palloc.Take(s, n)
		want(t, "take", e, api.OK)
		for _, part := range parts {
			for _, b := range l {
				want(t, "given out twice", slices.Contains(part, b), false)
			}
		}
		for _, b := range l {
			s.Put(tx.Block(b), 9)
		}
		parts = append(parts, l)
	}
	for _, k := range []int{3, 0, 2, 4, 1} {
		palloc.Give(s, parts[k])
	}
	words := using(edges...)
	want(t, "the bits", slices.Equal(s.Words()[:api.BlocksAt], words[:api.BlocksAt]), true)
	// What was left in a block is gone when it is given out again.
	free := except(1, 255, edges...)
	wantTake(t, "all of them again", s, len(free), free, api.OK)
	wantSheet(t, "all of them again", s, emptied(using(numbers(1, 255)...), free...))
}
