package convert_test

import (
	"slices"
	"testing"

	"imago/api"
	"imago/inode"
	"imago/palloc"
	"imago/tx"
)

// dice is a fixed row of numbers, so that each run asks the same.
type dice uint64

func (d *dice) upTo(n int) int {
	*d = *d*6364136223846793005 + 1442695040888963407
	return int(uint64(*d) >> 33 % uint64(n))
}

// wide is a directory that has room for a name; one there always is, while they grow by few.
func (d *dice) wide(s *tx.Sheet) int {
	for {
		i := d.upTo(32)
		if n, _, e := inode.Get(s, i); e == api.OK && n.Kind == api.Dir && n.Size < api.MaxEntries {
			return i
		}
	}
}

// forest rolls a sound sheet.
func (d *dice) forest(t *testing.T) *tx.Sheet {
	t.Helper()
	s := ground(t, formats[d.upTo(2)], formats[d.upTo(2)], d.upTo(33))
	next := 255 // files' blocks fall from here on, or have gaps; directories have theirs from the first one on
	for i := 1; i < 32; i++ {
		if d.upTo(4) == 0 {
			continue
		}
		dir, format := d.wide(s), formats[d.upTo(2)]
		if d.upTo(3) == 0 {
			grow(t, s, dir, i, format, empty())
			continue
		}
		n := file(d.upTo(833))
		for k := range (n.Size + 63) / 64 {
			if d.upTo(3) > 0 && next > 100 {
				n.Blocks[k] = next
				next -= 1 + d.upTo(8)/7
			}
		}
		if d.upTo(2) == 0 {
			slices.Reverse(n.Blocks[:(n.Size+63)/64])
		}
		grow(t, s, dir, i, format, n)
		for d.upTo(3) == 0 {
			link(t, s, d.wide(s), i)
		}
	}
	return s
}

// P11.1, P11.2: rows of aims and steps over any forests, while room comes and goes, and files are made and dropped between.
func TestAgainstModel(t *testing.T) {
	var did, lacked, ended int
	for seed := range 150 {
		d := dice(seed)
		s := d.forest(t)
		was := s.Words()
		wantSound(t, "a forest", s)
		for range 80 {
			switch d.upTo(12) {
			case 0:
				format := formats[d.upTo(2)]
				cursor := int(s.Get(2))
				if format != int(s.Get(1)) {
					cursor = 0
				}
				wantAim(t, "aim", s, format, api.OK)
				wantHeads(t, "aim", s, format, cursor)
			case 1, 2:
				full(s, d.upTo(4))
			case 3:
				palloc.Give(s, strays(s))
			case 4:
				wantUntouched(t, "no format", s, func() { wantAim(t, "no format", s, noFormats[d.upTo(len(noFormats))], api.ErrArg) })
			default:
				if wantStep(t, "step", s) == api.OK {
					did++
				} else {
					lacked++
				}
			}
		}
		wantSameWood(t, "behind all", s, was)
		wantSound(t, "behind all", s)
		palloc.Give(s, strays(s))
		for range 32 {
			wantStep(t, "to the end", s)
		}
		if s.Get(2) == 32 {
			ended++
		}
		wantTurned(t, "there", s, formats[d.upTo(2)])
		wantTurned(t, "and back", s, formats[d.upTo(2)])
		wantSameWood(t, "there and back", s, was)
		if t.Failed() {
			t.Fatalf("forest %d", seed)
		}
	}
	if did < 5000 || lacked < 300 || ended != 150 {
		t.Errorf("%d steps did, %d lacked room, %d came to the end", did, lacked, ended)
	}
}
