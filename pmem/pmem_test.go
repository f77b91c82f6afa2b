package pmem_test

import (
	"math"
	"slices"
	"testing"

	"imago/api"
	"imago/pmem"
)

// words loads all words, which needs the power.
func words(t *testing.T, p *pmem.PM) []uint64 {
	t.Helper()
	l := make([]uint64, p.Len())
	for i := range l {
		w, e := p.Load(i)
		if e != api.OK {
			t.Fatal("load", i, e)
		}
		l[i] = w
	}
	return l
}

func want(t *testing.T, what string, got, want any) {
	t.Helper()
	if got != want {
		t.Errorf("%s: got %v, want %v", what, got, want)
	}
}

func wantWord(t *testing.T, p *pmem.PM, i int, w uint64) {
	t.Helper()
	got, e := p.Load(i)
	if got != w || e != api.OK {
		t.Errorf("word %d: got %d, %d, want %d, 0", i, got, e, w)
	}
}

// P1.1: New takes the nearer of 0 and 10000 where a size is beyond them.
func TestNewSizes(t *testing.T) {
	sizes := map[int]int{
		math.MinInt: 0, -1: 0, 0: 0, 1: 1, 7: 7, 8: 8, 9: 9, api.Words: api.Words,
		9999: 9999, 10000: 10000, 10001: 10000, math.MaxInt: 10000,
	}
	for n, size := range sizes {
		p := pmem.New(n)
		want(t, "len", p.Len(), size)
		want(t, "dirty", p.Dirty(), 0)
		want(t, "deeds", p.Deeds(), 0)
		if slices.ContainsFunc(words(t, p), func(w uint64) bool { return w != 0 }) {
			t.Error("a new memory isn't all noughts", n)
		}
	}
}

// P1.1: Of copies, cuts behind 10000 words, and all of them last.
func TestOf(t *testing.T) {
	room := []uint64{5, 0, math.MaxUint64, 9}
	given := room[:3]
	p := pmem.Of(given)
	want(t, "len", p.Len(), 3)
	want(t, "dirty", p.Dirty(), 0)
	want(t, "deeds", p.Deeds(), 0)
	p.Crash(nil)
	if got := words(t, p); !slices.Equal(got, []uint64{5, 0, math.MaxUint64}) {
		t.Error(got)
	}
	p.Store(0, 6)
	if !slices.Equal(room, []uint64{5, 0, math.MaxUint64, 9}) {
		t.Error("what was handed in is changed", room)
	}
	given[1] = 7
	wantWord(t, p, 1, 0)
	p.Crash(nil)
	wantWord(t, p, 0, 5)
	wantWord(t, p, 1, 0)
}

func TestOfSizes(t *testing.T) {
	want(t, "len of nil", pmem.Of(nil).Len(), 0)
	for _, n := range []int{0, 1, 8, 9999, 10000, 10001, 20000} {
		l := make([]uint64, n)
		for i := range l {
			l[i] = uint64(i) + 1
		}
		if got := words(t, pmem.Of(l)); !slices.Equal(got, l[:min(n, 10000)]) {
			t.Error("other words than given", n, len(got))
		}
	}
}

// P1.1: ErrArg of no place; what is refused is no deed, and burns no fuse.
func TestNoPlace(t *testing.T) {
	for _, size := range []int{0, 1, 8, 20, 10000} {
		p := pmem.New(size)
		p.Fuse(1)
		for _, i := range []int{math.MinInt, -1, size, size + 1, size + 7, math.MaxInt} {
			w, e := p.Load(i)
			want(t, "load", e, api.ErrArg)
			want(t, "word beside an error", w, uint64(0))
			want(t, "store", p.Store(i, 1), api.ErrArg)
			want(t, "flush", p.Flush(i), api.ErrArg)
		}
		want(t, "deeds", p.Deeds(), 0)
		want(t, "dirty", p.Dirty(), 0)
		want(t, "the fuse's one deed", p.Fence(), api.OK)
		want(t, "behind it", p.Fence(), api.ErrLost)
	}
}

// P1.1: what is stored is loaded at once, at the edges of lines and of the memory.
func TestStoreIsLoaded(t *testing.T) {
	p := pmem.New(20)
	for n, i := range []int{0, 7, 8, 15, 16, 19} {
		w := math.MaxUint64 - uint64(i)
		want(t, "store", p.Store(i, w), api.OK)
		wantWord(t, p, i, w)
		want(t, "deeds", p.Deeds(), n+1)
		want(t, "dirty", p.Dirty(), n+1)
	}
	wantWord(t, p, 1, 0)
}

// P1.1: a line is all the words beside the i-th in it, the last line's too, and no other.
func TestFlushTakesItsLine(t *testing.T) {
	for i := range 20 {
		p := pmem.New(20)
		for k := range 20 {
			p.Store(k, uint64(k)+1)
		}
		want(t, "flush", p.Flush(i), api.OK)
		want(t, "dirty ahead of the fence", p.Dirty(), 20)
		want(t, "fence", p.Fence(), api.OK)
		p.Crash(nil)
		for k := range 20 {
			w := uint64(0)
			if k/api.LineWords == i/api.LineWords {
				w = uint64(k) + 1
			}
			wantWord(t, p, k, w)
		}
	}
}

// P1.1: neither a flush nor a fence alone makes lasting, nor both the other way about.
func TestFlushThenFence(t *testing.T) {
	deeds := map[string]func(p *pmem.PM){
		"nothing":             func(p *pmem.PM) {},
		"flush":               func(p *pmem.PM) { p.Flush(3) },
		"fence":               func(p *pmem.PM) { p.Fence() },
		"fence, flush":        func(p *pmem.PM) { p.Fence(); p.Flush(3) },
		"another line":        func(p *pmem.PM) { p.Flush(8); p.Fence() },
		"refused flush":       func(p *pmem.PM) { p.Flush(16); p.Fence() },
		"flush ahead of fuse": func(p *pmem.PM) { p.Flush(3); p.Fuse(0); p.Fence() },
	}
	for name, do := range deeds {
		p := pmem.New(16)
		p.Store(3, 5)
		do(p)
		want(t, name, p.Dirty(), 1)
		p.Crash(nil)
		wantWord(t, p, 3, 0)
	}
	p := pmem.New(16)
	p.Flush(3)
	p.Store(3, 5)
	p.Fence()
	want(t, "flush ahead of the store", p.Dirty(), 1)
}

// P1.1: a word that is stored again behind its flush isn't lasting by it, even if it is the same one.
func TestStoredAgain(t *testing.T) {
	for _, again := range []uint64{3, 4} {
		p := pmem.Of([]uint64{7, 7})
		p.Store(0, 3)
		p.Store(1, 3)
		p.Flush(0)
		p.Store(0, again)
		want(t, "a store of no place", p.Store(2, 1), api.ErrArg)
		p.Fence()
		want(t, "dirty", p.Dirty(), 1)
		p.Fence()
		want(t, "dirty behind one more fence", p.Dirty(), 1)
		wantWord(t, p, 0, again)
		p.Crash(nil)
		wantWord(t, p, 0, 7)
		wantWord(t, p, 1, 3)
	}
	p := pmem.New(8)
	p.Store(0, 3)
	p.Flush(0)
	p.Store(0, 4)
	p.Flush(1)
	p.Fence()
	p.Crash(nil)
	wantWord(t, p, 0, 4)
}

// Dirty is a word that isn't lasting as it is loaded: the lasting word, stored once more, isn't.
func TestDirtyIsAskedOfTheWord(t *testing.T) {
	p := pmem.Of([]uint64{7, 8, 9})
	p.Store(0, 7)
	want(t, "the same", p.Dirty(), 0)
	p.Store(0, 1)
	p.Store(0, 2)
	want(t, "another, twice", p.Dirty(), 1)
	p.Store(0, 7)
	want(t, "the same again", p.Dirty(), 0)
	p.Store(0, 7)
	p.Store(1, 1)
	p.Store(2, 1)
	p.Crash([]uint8{1, 0})
	wantWord(t, p, 0, 7)
	wantWord(t, p, 1, 1)
	wantWord(t, p, 2, 9)
}

// P1.1: stores, flushes and fences are deeds; loads and crashes aren't, nor what is refused.
func TestDeeds(t *testing.T) {
	p := pmem.New(9)
	p.Store(0, 0)
	p.Flush(8)
	p.Fence()
	want(t, "three deeds", p.Deeds(), 3)
	p.Load(0)
	p.Crash([]uint8{1})
	p.Fuse(5)
	p.Store(9, 1)
	p.Flush(-1)
	want(t, "none besides", p.Deeds(), 3)
	p.Fuse(0)
	p.Store(0, 1)
	p.Flush(0)
	p.Fence()
	want(t, "none without power", p.Deeds(), 3)
	p.Crash(nil)
	p.Fence()
	want(t, "counted on behind a crash", p.Deeds(), 4)
}

// wantGone asks all calls of a memory of 8 words or more that has no power.
func wantGone(t *testing.T, p *pmem.PM) {
	t.Helper()
	deeds, dirty, size := p.Deeds(), p.Dirty(), p.Len()
	for _, i := range []int{math.MinInt, -1, 0, 7, size, math.MaxInt} {
		w, e := p.Load(i)
		want(t, "load", e, api.ErrLost)
		want(t, "word beside an error", w, uint64(0))
		want(t, "store", p.Store(i, 99), api.ErrLost)
		want(t, "flush", p.Flush(i), api.ErrLost)
	}
	want(t, "fence", p.Fence(), api.ErrLost)
	want(t, "deeds", p.Deeds(), deeds)
	want(t, "dirty", p.Dirty(), dirty)
	want(t, "len", p.Len(), size)
}

// P1.1: the power is gone just behind n deeds of all three kinds, loads aside.
func TestFuse(t *testing.T) {
	for n := range 7 {
		p := pmem.New(8)
		p.Fuse(n)
		for k := range n {
			wantWord(t, p, 7, 0)
			kinds := []func() api.Errno{
				func() api.Errno { return p.Store(0, uint64(k)+1) },
				func() api.Errno { return p.Flush(0) },
				p.Fence,
			}
			want(t, "a deed ahead of the end", kinds[k%3](), api.OK)
		}
		wantGone(t, p)
		want(t, "deeds", p.Deeds(), n)
	}
}

// P1.1: a fuse takes the place of the one before; below 0 there is none; without power it is nothing.
func TestFuseAgain(t *testing.T) {
	p := pmem.New(8)
	p.Fuse(1)
	p.Fuse(2)
	want(t, "first", p.Fence(), api.OK)
	want(t, "second", p.Fence(), api.OK)
	wantGone(t, p)
	for _, n := range []int{-1, math.MinInt, 0, 1, math.MaxInt} {
		p.Fuse(n)
		wantGone(t, p)
	}
	p.Crash(nil)
	for _, n := range []int{-1, math.MinInt, math.MaxInt} {
		p.Fuse(1)
		p.Fuse(n)
		for range 100 {
			want(t, "no fuse, or a long one", p.Fence(), api.OK)
		}
	}
	p.Fuse(0)
	wantGone(t, p)
}

// P1.2: a crash takes a fuse out, burnt down or not.
func TestCrashTakesFuseOut(t *testing.T) {
	for _, n := range []int{0, 1, 2} {
		p := pmem.New(8)
		p.Fuse(n)
		p.Store(0, 1)
		p.Crash(nil)
		for range 10 {
			want(t, "fence", p.Fence(), api.OK)
		}
		wantWord(t, p, 0, 0)
	}
}

// P1.2: of the dirty words by their places, not in the order of their stores.
func TestCrashKeeps(t *testing.T) {
	cases := []struct {
		keep []uint8
		kept [5]bool
	}{
		{nil, [5]bool{}},
		{[]uint8{}, [5]bool{}},
		{[]uint8{0}, [5]bool{}},
		{[]uint8{1}, [5]bool{true, true, true, true, true}},
		{[]uint8{255}, [5]bool{true, true, true, true, true}},
		{[]uint8{254}, [5]bool{}},
		{[]uint8{1, 0}, [5]bool{true, false, true, false, true}},
		{[]uint8{2, 3}, [5]bool{false, true, false, true, false}},
		{[]uint8{0, 0, 1}, [5]bool{false, false, true, false, false}},
		{[]uint8{0, 0, 0, 0, 1}, [5]bool{false, false, false, false, true}},
		{[]uint8{0, 1, 0, 0, 0, 1, 1, 1}, [5]bool{false, true, false, false, false}},
	}
	for _, c := range cases {
		p := pmem.Of(slices.Repeat([]uint64{50}, 20))
		places := []int{0, 7, 8, 12, 19}
		for _, n := range []int{3, 0, 4, 2, 1} {
			p.Store(places[n], uint64(n))
		}
		want(t, "dirty", p.Dirty(), 5)
		given := slices.Clone(c.keep)
		p.Crash(c.keep)
		want(t, "dirty then", p.Dirty(), 0)
		if !slices.Equal(given, c.keep) {
			t.Error("what was handed in is changed", c.keep)
		}
		l := slices.Repeat([]uint64{50}, 20)
		for n, i := range places {
			if c.kept[n] {
				l[i] = uint64(n)
			}
		}
		if got := words(t, p); !slices.Equal(got, l) {
			t.Error(c.keep, got, l)
		}
		p.Crash([]uint8{0})
		if got := words(t, p); !slices.Equal(got, l) {
			t.Error("what was kept isn't lasting", c.keep, got)
		}
	}
}

// P1.2: a flush from before a crash is none behind it.
func TestCrashForgetsFlushes(t *testing.T) {
	p := pmem.New(8)
	p.Store(0, 1)
	p.Flush(0)
	p.Crash(nil)
	p.Store(1, 2)
	p.Fence()
	want(t, "dirty", p.Dirty(), 1)
	p.Store(0, 1)
	p.Fence()
	want(t, "dirty", p.Dirty(), 2)
	p.Crash(nil)
	wantWord(t, p, 0, 0)
	wantWord(t, p, 1, 0)
}

// P1.3: what lasts stays, whatever is done to other words, and through crashes.
func TestLastingStays(t *testing.T) {
	p := pmem.New(20)
	p.Store(3, 5)
	p.Store(17, 6)
	p.Flush(3)
	p.Flush(17)
	p.Fence()
	for _, keep := range [][]uint8{nil, {1}, {0, 1}, {1, 0}} {
		for i := range 20 {
			if i != 3 && i != 17 {
				p.Store(i, uint64(i)+100)
			}
		}
		p.Flush(0)
		p.Fuse(1)
		p.Fence()
		p.Crash(keep)
		wantWord(t, p, 3, 5)
		wantWord(t, p, 17, 6)
	}
}

// R7: memories don't hang on one another.
func TestMemoriesAreApart(t *testing.T) {
	p, q := pmem.New(8), pmem.New(8)
	p.Store(0, 1)
	p.Fuse(0)
	wantWord(t, q, 0, 0)
	want(t, "deeds", q.Deeds(), 0)
	want(t, "fence", q.Fence(), api.OK)
}

// R1: a memory of no words, and one that was never made, answer too.
func TestNoWords(t *testing.T) {
	for _, p := range []*pmem.PM{{}, pmem.New(0), pmem.Of(nil)} {
		want(t, "len", p.Len(), 0)
		want(t, "store", p.Store(0, 1), api.ErrArg)
		want(t, "flush", p.Flush(0), api.ErrArg)
		want(t, "fence", p.Fence(), api.OK)
		p.Crash([]uint8{1})
		want(t, "deeds", p.Deeds(), 1)
		want(t, "dirty", p.Dirty(), 0)
		p.Fuse(0)
		want(t, "fence without power", p.Fence(), api.ErrLost)
	}
}
