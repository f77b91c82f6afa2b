package pmem_test

import (
	"slices"
	"testing"

	"imago/api"
	"imago/pmem"
)

// A told deed, as the model keeps it.
type deed struct {
	kind byte // 's', 'f' (flush), 'F' (fence)
	at   int
	word uint64
}

// model tells what the chapter's words say of a whole history, worked out anew at each question.
type model struct {
	base []uint64
	past []deed
}

// now is the word that was stored last.
func (m *model) now(i int) uint64 {
	w := m.base[i]
	for _, d := range m.past {
		if d.kind == 's' && d.at == i {
			w = d.word
		}
	}
	return w
}

// lasting is the last word behind which a flush of its line, and then a fence, came ahead of another store.
func (m *model) lasting(i int) uint64 {
	last, w, steps := m.base[i], m.base[i], 0
	for _, d := range m.past {
		switch {
		case d.kind == 's' && d.at == i:
			w, steps = d.word, 0
		case d.kind == 'f' && d.at/api.LineWords == i/api.LineWords:
			steps = max(steps, 1)
		case d.kind == 'F' && steps == 1:
			last, steps = w, 2
		}
	}
	return last
}

func (m *model) dirty() []int {
	var l []int
	for i := range m.base {
		if m.now(i) != m.lasting(i) {
			l = append(l, i)
		}
	}
	return l
}

func (m *model) crash(keep []uint8) {
	base := make([]uint64, len(m.base))
	for i := range base {
		base[i] = m.lasting(i)
	}
	for n, i := range m.dirty() {
		if len(keep) > 0 && keep[n%len(keep)]&1 == 1 {
			base[i] = m.now(i)
		}
	}
	m.base, m.past = base, nil
}

// dice is a fixed row of numbers, so that each run asks the same.
type dice uint64

func (d *dice) roll(n int) int {
	*d = *d*6364136223846793005 + 1442695040888963407
	return int(uint64(*d) >> 33 % uint64(n))
}

// deedOf does a deed on both, and tells whether they agree that it was one.
func (m *model) deedOf(p *pmem.PM, d *dice) bool {
	at := d.roll(len(m.base))
	switch k := d.roll(8); {
	case k < 4:
		w := uint64(d.roll(3))
		m.past = append(m.past, deed{'s', at, w})
		return p.Store(at, w) == api.OK
	case k < 7:
		m.past = append(m.past, deed{'f', at, 0})
		return p.Flush(at) == api.OK
	}
	m.past = append(m.past, deed{'F', 0, 0})
	return p.Fence() == api.OK
}

// P1.1 to P1.3, of long rows of deeds with crashes between, some by a fuse.
func TestAsTheModel(t *testing.T) {
	for seed := range 60 {
		d := dice(seed)
		m := &model{base: make([]uint64, 1+d.roll(20))}
		p := pmem.Of(m.base)
		for range 12 {
			n := d.roll(40)
			if d.roll(2) == 0 {
				p.Fuse(n)
			}
			for range n {
				if !m.deedOf(p, &d) {
					t.Fatal("a deed is refused", seed)
				}
				want(t, "dirty", p.Dirty(), len(m.dirty()))
			}
			keep := make([]uint8, d.roll(5))
			for i := range keep {
				keep[i] = uint8(d.roll(256))
			}
			m.crash(keep)
			p.Crash(keep)
			if got := words(t, p); !slices.Equal(got, m.base) {
				t.Fatal("words behind a crash", seed, got, m.base)
			}
		}
	}
}
