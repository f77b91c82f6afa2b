package convert_test

import (
	"math"
	"testing"

	"imago/api"
	"imago/convert"
	"imago/tx"
)

// P11.1: aimed at another format, the target is that, and the cursor 0; at the target itself, the cursor stays.
func TestAim(t *testing.T) {
	for _, target := range formats {
		for _, format := range formats {
			for cursor := range 33 {
				s := grove(t, mixes["in turns"], target, cursor)
				want := s.Words()
				if format != target {
					want[1], want[2] = uint64(format), 0
				}
				wantAim(t, "aim", s, format, api.OK)
				wantWords(t, "aim", s, want)
				wantHeads(t, "aim", s, format, int(want[2]))
				wantUntouched(t, "aim again", s, func() { wantAim(t, "aim again", s, format, api.OK) })
			}
		}
	}
}

// P11.1: a number that is no format is ErrArg, and alters nothing.
func TestAimWrong(t *testing.T) {
	for _, target := range formats {
		for _, cursor := range []int{0, 7, 32} {
			s := grove(t, mixes["in turns"], target, cursor)
			for _, format := range noFormats {
				wantUntouched(t, "no format", s, func() { wantAim(t, "no format", s, format, api.ErrArg) })
			}
			wantHeads(t, "no format", s, target, cursor)
		}
	}
}

// anyWords are words that stand nowhere in a sound sheet, and such that do.
var anyWords = []uint64{
	0, 1, 2, 3, 31, 32, 33, 255, 256, 257, 258, 288, 1<<32 + 1, 1<<32 + 2, 1<<32 + 32, 1 << 63, 1<<63 + 1, 1<<63 + 2, 1<<63 + 32,
	math.MaxInt64, math.MaxUint64 - 1, math.MaxUint64,
}

// P11.1: Aim, Target and Done of a sheet of noughts, and of any words at the target's and the cursor's places, and at all others.
func TestAnySheet(t *testing.T) {
	for _, other := range []uint64{0, 1, math.MaxUint64} {
		for _, target := range anyWords {
			for _, cursor := range anyWords {
				words := make([]uint64, api.Words)
				for at := range words {
					words[at] = other
				}
				words[1], words[2] = target, cursor
				s := tx.New(words)
				wantHeads(t, "any words", s, int(target), int(cursor))
				for _, format := range noFormats {
					wantUntouched(t, "any words", s, func() { wantAim(t, "any words", s, format, api.ErrArg) })
				}
				for _, format := range formats {
					mark := s.Mark()
					want := s.Words()
					if target != uint64(format) {
						want[1], want[2] = uint64(format), 0
					}
					wantAim(t, "any words", s, format, api.OK)
					wantWords(t, "any words", s, want)
					wantHeads(t, "any words", s, format, int(want[2]))
					s.Back(mark)
				}
			}
		}
	}
}

// R1: steps of sheets that aren't sound end, and don't panic; so does Left.
func TestStepAnySheet(t *testing.T) {
	for _, other := range []uint64{0, 1, 2, 0x101, 0x102, 0x10102, 0x10201, math.MaxUint64} {
		for _, target := range anyWords {
			for _, cursor := range anyWords {
				words := make([]uint64, api.Words)
				for at := 816; at < len(words); at++ {
					words[at] = other
				}
				words[1], words[2] = target, cursor
				s := tx.New(words)
				for range 3 {
					convert.Step(s)
				}
				if got := convert.Left(s); got < 0 || got > 32 {
					t.Errorf("%d are left", got)
				}
			}
		}
	}
}
