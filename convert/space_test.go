package convert_test

import (
	"strconv"
	"testing"

	"imago/api"
	"imago/convert"
	"imago/inode"
	"imago/palloc"
	"imago/tx"
)

// full lets just so many blocks be free of those that are, the lowest.
func full(s *tx.Sheet, left int) {
	for b := 1; b < 256; b++ {
		if palloc.Used(s, b) {
			continue
		}
		if left > 0 {
			left--
			continue
		}
		palloc.Set(s, b, true)
	}
}

// ownOf tells how many blocks the inode's format takes.
func ownOf(s *tx.Sheet, i int) int {
	_, own, _ := inode.Get(s, i)
	return len(own)
}

// lacks tells how many free blocks it takes to turn an inode, beside those that its format gives back.
func lacks(t *testing.T, s *tx.Sheet, i int) int {
	t.Helper()
	mark := s.Mark()
	was := ownOf(s, i)
	n := get(t, s, i)
	n.Format = 3 - n.Format
	put(t, s, i, n)
	is := ownOf(s, i)
	s.Back(mark)
	return is - was
}

// hungry are sheets whose inode at the cursor needs more blocks in the other format than it has in its own.
func hungry(t *testing.T) map[string]*tx.Sheet {
	t.Helper()
	all := ground(t, api.Old, api.New, 5)
	grow(t, all, 0, 5, api.Old, empty())
	grow(t, all, 0, 6, api.Old, file(0))
	for range 24 {
		link(t, all, 5, 6)
	}
	few := ground(t, api.Old, api.New, 5)
	grow(t, few, 0, 5, api.Old, empty())
	for k := range 4 {
		grow(t, few, 5, 10+k, api.Old, file(0))
	}
	listed := ground(t, api.New, api.Old, 31)
	grow(t, listed, 0, 31, api.New, file(832, 200, 201, 202, 203, 204, 205, 206, 207, 208, 209, 210, 211, 212))
	return map[string]*tx.Sheet{
		"a directory of all entries":    all,
		"a directory of a block":        few,
		"a file that is to have a list": listed,
		"the root":                      filled(t, few),
	}
}

// filled is such a sheet, with all entries in the root that may be, and the cursor there.
func filled(t *testing.T, of *tx.Sheet) *tx.Sheet {
	t.Helper()
	s := tx.New(of.Words())
	s.Put(2, 0)
	for i := 1; len(get(t, s, 0).Entries) < 24; i++ {
		if inode.Free(s, i) {
			grow(t, s, 0, i, api.Old, file(0))
		}
	}
	return s
}

// P11.1: where blocks lack, one too, a step is ErrSpace and alters nothing; the same step is done when they have been given back.
func TestStepTooFew(t *testing.T) {
	for what, of := range hungry(t) {
		wantSound(t, what, of)
		i := int(of.Get(2))
		more := lacks(t, of, i)
		if more < 1 {
			t.Fatalf("%s: %d blocks more", what, more)
		}
		for short := 1; short <= more; short++ {
			s := tx.New(of.Words())
			full(s, more-short)
			was := s.Words()
			for range 3 {
				if e := wantStep(t, what, s); e != api.ErrSpace {
					t.Errorf("%s: %d blocks too few: %v", what, short, e)
				}
				wantWords(t, what, s, was)
			}
			wantHeads(t, what, s, int(was[1]), i)
			given := strays(s)[:short]
			palloc.Give(s, given[1:])
			if e := wantStep(t, what, s); e != api.ErrSpace {
				t.Errorf("%s: one block too few: %v", what, e)
			}
			palloc.Give(s, given[:1])
			if e := wantStep(t, what, s); e != api.OK {
				t.Errorf("%s: just as many blocks as it takes: %v", what, e)
			}
			wantHeads(t, what, s, int(was[1]), i+1)
			wantSameWood(t, what, s, was)
			wantSound(t, what, s)
			if got := palloc.Free(s); got != 0 {
				t.Errorf("%s: %d blocks are free still", what, got)
			}
		}
	}
}

// P11.1: what takes no more blocks than it has is turned where none is free.
func TestStepNoneFree(t *testing.T) {
	for mix, format := range mixes {
		for _, target := range formats {
			s := grove(t, format, target, 0)
			full(s, 0)
			for i := range 32 {
				s.Put(2, uint64(i))
				want := api.OK
				if n, _, e := inode.Get(s, i); e == api.OK && n.Format != target && lacksOf(t, s, i) > palloc.Free(s) {
					want = api.ErrSpace
				}
				if e := wantStep(t, mix, s); e != want {
					t.Errorf("%s: the inode %d: %v, want %v", mix, i, e, want)
				}
			}
			wantSound(t, mix, s)
		}
	}
}

// lacksOf asks the same as lacks of a sheet that has no room to try it.
func lacksOf(t *testing.T, s *tx.Sheet, i int) int {
	t.Helper()
	wide := tx.New(s.Words())
	palloc.Give(wide, strays(wide))
	return lacks(t, wide, i)
}

// P11.2: turned as far as there is room, back, and with room again: the wood stays the same.
func TestStuckAndBack(t *testing.T) {
	for left := range 20 {
		what := strconv.Itoa(left) + " free"
		s := grove(t, mixes["old"], api.Old, 32)
		was := s.Words()
		full(s, left)
		wantAim(t, what, s, api.New, api.OK)
		steps := 0
		for ; steps < 32 && wantStep(t, what, s) == api.OK; steps++ {
		}
		if convert.Done(s) != (steps == 32) || left == 0 && steps == 32 {
			t.Errorf("%s: done behind %d steps: %v", what, steps, convert.Done(s))
		}
		wantSameWood(t, what, s, was)
		palloc.Give(s, strays(s))
		for ; steps < 32; steps++ {
			if e := wantStep(t, what, s); e != api.OK {
				t.Errorf("%s: with room: %v", what, e)
			}
		}
		wantHeads(t, what, s, api.New, 32)
		wantLeft(t, what, s, 0)
		wantTurned(t, what, s, api.Old)
	}
}
