package convert_test

import (
	"slices"
	"strconv"
	"testing"

	"imago/api"
	"imago/convert"
	"imago/inode"
	"imago/palloc"
	"imago/tx"
)

// wantTurned aims, takes as many steps as there are inodes, and one more; it asks for all that should be behind them.
func wantTurned(t *testing.T, what string, s *tx.Sheet, format int) {
	t.Helper()
	was := s.Words()
	lost := strays(s)
	wantAim(t, what, s, format, api.OK)
	s.Put(2, 0) // where it was the target already, some inodes were looked at: these, too, are to be
	for i := range 32 {
		wantHeads(t, what, s, format, i)
		if e := wantStep(t, what, s); e != api.OK {
			t.Errorf("%s: the step %d: %v", what, i, e)
		}
		wantSameWood(t, what, s, was)
	}
	wantHeads(t, what, s, format, 32)
	wantLeft(t, what, s, 0)
	for i := range 32 {
		if n, _, e := inode.Get(s, i); e == api.OK && n.Format != format {
			t.Errorf("%s: the inode %d has the format %d", what, i, n.Format)
		}
	}
	wantSound(t, what, s)
	if got := strays(s); !slices.Equal(got, lost) {
		t.Errorf("%s: blocks that no inode has: %v, they were %v", what, got, lost)
	}
	wantUntouched(t, what, s, func() {
		if e := convert.Step(s); e != api.OK {
			t.Errorf("%s: one step more: %v", what, e)
		}
	})
}

// P11.1, P11.2: whichever formats there are, all are turned behind Inodes steps, also back, and again.
func TestThereAndBack(t *testing.T) {
	for mix, format := range mixes {
		for _, target := range formats {
			s := grove(t, format, target, 32)
			for round, to := range []int{api.New, api.Old, api.Old, api.New, api.Old} {
				wantTurned(t, mix+", round "+strconv.Itoa(round), s, to)
			}
		}
	}
}

// P11.2: turned there and back, the used blocks are as many as they were, and just those that inodes have.
func TestUsedThereAndBack(t *testing.T) {
	for _, format := range formats {
		s := grove(t, func(int) int { return format }, format, 32)
		free := palloc.Free(s)
		wantTurned(t, "there", s, 3-format)
		wantTurned(t, "back", s, format)
		if got := palloc.Free(s); got != free || len(strays(s)) != 0 {
			t.Errorf("%d blocks are free, there were %d; strays: %v", got, free, strays(s))
		}
	}
}

// P11.2: blocks that are used, and no inode has, stay used; what was in them stays, too.
func TestStrayBlocks(t *testing.T) {
	for mix, format := range mixes {
		s := grove(t, format, api.Old, 0)
		var words []uint64
		for b := 140; b <= 190; b += 10 {
			palloc.Set(s, b, true)
			words = append(words, s.Get(tx.Block(b)))
		}
		wantTurned(t, mix, s, api.New)
		wantTurned(t, mix, s, api.Old)
		for k, w := range words {
			if b := 140 + 10*k; !palloc.Used(s, b) || s.Get(tx.Block(b)) != w {
				t.Errorf("%s: the block %d isn't used, or isn't as it was", mix, b)
			}
		}
	}
}

// P11.1: a step at a free inode, and at one of the target's format, is the cursor's alone; at one of the other it is turned, too.
func TestOneStep(t *testing.T) {
	for mix, format := range mixes {
		for _, target := range formats {
			for i := range 32 {
				s := grove(t, format, target, i)
				was := s.Words()
				if e := wantStep(t, mix, s); e != api.OK {
					t.Errorf("%s: the step %d: %v", mix, i, e)
				}
				if n, _, e := inode.Get(tx.New(was), i); e != api.OK || n.Format == target {
					was[2]++
					wantWords(t, mix, s, was)
				} else if n, _, _ = inode.Get(s, i); n.Format != target {
					t.Errorf("%s: the inode %d isn't turned", mix, i)
				}
			}
		}
	}
}

// P11.1: a step where it is done puts nothing, whatever is left.
func TestStepDone(t *testing.T) {
	for mix, format := range mixes {
		for _, target := range formats {
			s := grove(t, format, target, 32)
			wantUntouched(t, mix, s, func() {
				if e := convert.Step(s); e != api.OK {
					t.Errorf("%s: %v", mix, e)
				}
			})
			wantLeft(t, mix, s, left(s))
		}
	}
}

// P11.1: what is made behind the cursor in another format is left, till it is aimed anew.
func TestLeftBehindCursor(t *testing.T) {
	s := grove(t, mixes["new"], api.New, 20)
	wantLeft(t, "all new", s, 0)
	grow(t, s, 8, 12, api.Old, file(700))
	wantLeft(t, "one made", s, 1)
	for range 12 {
		wantStep(t, "one made", s)
	}
	wantLeft(t, "done", s, 1)
	wantAim(t, "the same", s, api.New, api.OK)
	wantHeads(t, "the same", s, api.New, 32)
	wantAim(t, "the other", s, api.Old, api.OK)
	wantLeft(t, "the other", s, 13)
	wantTurned(t, "there again", s, api.New)
}

// P11.1: Left of free inodes alone, of the root, of all inodes there may be, and behind each step.
func TestLeft(t *testing.T) {
	noughts := tx.New(nil)
	wantLeft(t, "noughts", noughts, 0)
	for _, target := range formats {
		noughts.Put(1, uint64(target))
		wantLeft(t, "free inodes", noughts, 0)
		for _, format := range formats {
			s := ground(t, format, target, 0)
			want := 0
			if format != target {
				want = 1
			}
			wantLeft(t, "the root", s, want)
			for i := 1; i < 32; i++ {
				grow(t, s, i/24, i, format, empty())
				wantLeft(t, "one more", s, want*(i+1))
			}
			for i := range 32 {
				wantStep(t, "all inodes", s)
				wantLeft(t, "all inodes", s, want*(31-i))
			}
		}
	}
}

// P11.1: each inode of its own, of either format, the last ones too.
func TestLeftOfOne(t *testing.T) {
	for i := range 32 {
		for _, format := range formats {
			s := ground(t, 3-format, 3-format, 5)
			if i > 0 {
				grow(t, s, 0, i, format, file(0))
				wantLeft(t, "one", s, 1)
			}
			wantAim(t, "the other", s, format, api.OK)
			wantLeft(t, "all but one", s, 1)
		}
	}
}
