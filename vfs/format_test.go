package vfs_test

import (
	"testing"

	"imago/api"
	"imago/check"
	"imago/inode"
	"imago/pack"
	"imago/pmem"
	"imago/tx"
	"imago/vfs"
)

// emptyWords are all words of a file system that has just been formatted.
func emptyWords(format int) []uint64 {
	words := make([]uint64, 3128)
	words[0], words[1], words[2] = 0x696d61676f303100, uint64(format), 32
	words[824] = uint64(format) + 2<<8 + 1<<16
	return words
}

// anyOf is a memory in which no word is 0.
func anyOf(n int) *pmem.PM {
	words := make([]uint64, n)
	for i := range words {
		words[i] = uint64(i)*0x9e3779b97f4a7c15 | 1
	}
	return pmem.Of(words)
}

// P12.1: a memory that was formatted has just the words that it should, all of them lasting, whatever was there.
func TestFormat(t *testing.T) {
	for _, format := range formats {
		full := newRig(t, 3-format)
		full.are(mkdir("d"), mk("d/a"), write("d/a", 0, text(800)), aim(format), step())
		for what, p := range map[string]*pmem.PM{"noughts": pmem.New(3128), "any words": anyOf(3128), "another": full.p} {
			p.Store(9, 77)
			if e := vfs.Format(p, format); e != api.OK {
				t.Errorf("%s: %v", what, e)
			}
			wantWords(t, what, p, emptyWords(format))
			if p.Dirty() != 0 {
				t.Errorf("%s: %d words don't last", what, p.Dirty())
			}
			p.Crash(nil)
			wantWords(t, what+", crashed", p, emptyWords(format))
			if got := asked(t, mount(t, p)); got != newWorld(format) {
				t.Errorf("%s: the tree is %v", what, got)
			}
		}
	}
}

// P12.1: memories of other lengths, and numbers of no format, are ErrArg, ahead of ErrLost, and nothing is done.
func TestFormatWrong(t *testing.T) {
	refused := func(what string, p *pmem.PM, format int) {
		t.Helper()
		was := loaded(t, p)
		if e := vfs.Format(p, format); e != api.ErrArg {
			t.Errorf("%s: %v", what, e)
		}
		wantWords(t, what, p, was)
		p.Fuse(0)
		if e := vfs.Format(p, format); e != api.ErrArg {
			t.Errorf("%s, without power: %v", what, e)
		}
		p.Crash(nil)
		if p.Deeds() != 0 {
			t.Errorf("%s: %d deeds", what, p.Deeds())
		}
		wantWords(t, what+", crashed", p, was)
	}
	for _, n := range []int{0, 1, 8, 3127, 3129, 10000} {
		for _, format := range formats {
			refused("another length", anyOf(n), format)
		}
		refused("another length, no format", anyOf(n), 3)
	}
	refused("no memory at all", &pmem.PM{}, 1)
	for _, format := range noFormats {
		refused("no format", anyOf(3128), format)
	}
}

// P12.1: without power for all of its deeds, a format is ErrLost.
func TestFormatLost(t *testing.T) {
	p := pmem.New(3128)
	vfs.Format(p, 1)
	all := p.Deeds()
	for n := 0; n <= all+5; n++ {
		if n > 20 && n < all-20 && n%97 > 0 {
			continue
		}
		p := anyOf(3128)
		p.Fuse(n)
		want := api.ErrLost
		if n > 0 && n >= all {
			want = api.OK
		}
		if e := vfs.Format(p, 1); e != want {
			t.Errorf("a fuse of %d, of %d deeds: %v", n, all, e)
		}
		p.Crash(nil)
		if want == api.OK {
			wantWords(t, "behind all deeds", p, emptyWords(1))
		}
	}
}

// wantMount asks for a mount's error, and that there is a file system just beside none.
func wantMount(t *testing.T, what string, p *pmem.PM, want api.Errno) {
	t.Helper()
	f, e := vfs.Mount(p)
	if e != want || (f != nil) != (want == api.OK) {
		t.Errorf("%s: %v, a file system: %v, want %v", what, e, f != nil, want)
	}
}

// P12.1: a memory of another length is ErrArg, also without power; one without power is ErrLost; noughts are ErrCorrupt.
func TestMountWrong(t *testing.T) {
	for _, n := range []int{0, 1, 8, 3127, 3129, 10000} {
		p := anyOf(n)
		was := loaded(t, p)
		wantMount(t, "another length", p, api.ErrArg)
		wantWords(t, "another length", p, was)
		p.Fuse(0)
		wantMount(t, "another length, without power", p, api.ErrArg)
	}
	wantMount(t, "no memory at all", &pmem.PM{}, api.ErrArg)
	for _, format := range formats {
		longer := append(emptyWords(format), 0)
		wantMount(t, "a word more", pmem.Of(longer), api.ErrArg)
		wantMount(t, "a word less", pmem.Of(longer[:3127]), api.ErrArg)
		p := pmem.Of(emptyWords(format))
		wantMount(t, "just as long", p, api.OK)
		p.Fuse(0)
		wantMount(t, "without power", p, api.ErrLost)
	}
	wantMount(t, "noughts", pmem.New(3128), api.ErrCorrupt)
	wantMount(t, "any words", anyOf(3128), api.ErrCorrupt)
}

// unsound are words of which just one point isn't so, by the points' numbers.
func unsound(t *testing.T) map[string][]uint64 {
	t.Helper()
	r := newRig(t, api.Old)
	r.are(mkdir("d"), mk("a"), write("a", 0, text(70)), mkdir("d/e"))
	l := map[string][]uint64{}
	but := func(what string, how func(s *tx.Sheet)) {
		s := r.f.Sheet()
		how(s)
		l[what] = s.Words()
	}
	at := func(i int, w uint64) func(s *tx.Sheet) { return func(s *tx.Sheet) { s.Put(i, w) } }
	but("1, the magic", at(0, 0x696d61676f303101))
	but("1, the target", at(1, 3))
	but("1, the cursor", at(2, 33))
	but("1, a word ahead of the journal", at(7, 1))
	but("1, a word behind the bits", at(820, 1))
	but("2, a tag", at(824, 0))
	but("2, an inode of no format", at(824+8*31, 3))
	but("3, an entry of nothing", func(s *tx.Sheet) { inode.Drop(s, 2) })
	but("4, links", at(824+16, 1+1<<8+2<<16))
	but("5, a ring", func(s *tx.Sheet) {
		root, _, _ := inode.Get(s, 0)
		root.Entries, root.Size = root.Entries[:1], 1
		inode.Put(s, 0, root)
		e := api.Inode{Format: 1, Kind: 2, Links: 1, Size: 1, Entries: []api.Entry{{Name: "d", Ino: 1}}}
		inode.Put(s, 3, e)
	})
	but("6, a bit", func(s *tx.Sheet) { s.Put(819, 1<<63) })
	but("6, the block 0", func(s *tx.Sheet) { s.Put(816, s.Get(816)|1) })
	but("7, a tail", func(s *tx.Sheet) {
		n, _, _ := inode.Get(s, 2)
		s.Put(1080+8*n.Blocks[1]+7, 1)
	})
	for what, words := range l {
		if point, _ := check.Sound(tx.New(words)); point != int(what[0]-'0') {
			t.Fatalf("%s: the point %d isn't so", what, point)
		}
	}
	return l
}

// P12.1: words that aren't sound are ErrCorrupt, and stay.
func TestMountUnsound(t *testing.T) {
	for what, words := range unsound(t) {
		p := pmem.Of(words)
		wantMount(t, what, p, api.ErrCorrupt)
		wantWords(t, what, p, words)
	}
}

// journal lays a commit that stands over words.
func journal(words []uint64, l ...api.Pair) []uint64 {
	var log []uint64
	for _, x := range l {
		log = append(log, uint64(x.At), x.Word)
	}
	s := tx.New(words)
	s.Put(8, uint64(len(l))<<32|uint64(pack.Sum(log)))
	for k, w := range log {
		s.Put(9+k, w)
	}
	return s.Words()
}

// P12.1: a journal that stands is carried out ahead of the question whether the words are sound.
func TestMountStanding(t *testing.T) {
	was := newRig(t, api.Old)
	was.are(mk("a"), write("a", 0, "hello"))
	l := was.f.Sheet().Words()
	is := was.copied()
	is.are(write("a", 3, text(300)), mkdir("d"))
	var pairs []api.Pair
	for at, w := range is.f.Sheet().Words() {
		if w != l[at] && (at < 8 || at >= 816) {
			pairs = append(pairs, api.Pair{At: at, Word: w})
		}
	}
	r := on(t, journal(l, pairs...))
	r.w = is.w
	r.wantState("a journal that stands")
	r.p.Crash(nil)
	r.wantState("crashed")

	p := pmem.Of(journal(l, api.Pair{At: 1, Word: 3}))
	wantMount(t, "unsound by its journal", p, api.ErrCorrupt)
	if w, _ := p.Load(1); w != 3 {
		t.Errorf("the target is %d", w)
	}
	wantMount(t, "unsound, mounted again", p, api.ErrCorrupt)
	bad := append([]uint64{}, l...)
	bad[1] = 3
	r = on(t, journal(bad, api.Pair{At: 1, Word: 1}))
	r.w = was.w
	r.wantState("sound by its journal")
}

// P12.1: a journal that is none is done away with, and nothing else.
func TestMountTorn(t *testing.T) {
	r := newRig(t, api.New)
	r.are(mk("a"), write("a", 0, "hello"))
	words := r.f.Sheet().Words()
	for _, w := range []uint64{1, 1 << 32, 3<<32 + 5, 400<<32 + 1, 401 << 32, 1 << 63, 1<<64 - 1} {
		torn := append([]uint64{}, words...)
		torn[8] = w
		x := on(t, torn)
		x.w = r.w
		x.wantState("a journal that is none")
		wantWords(t, "a journal that is none", x.p, words)
		x.p.Crash(nil)
		wantWords(t, "crashed", x.p, words)
	}
	stands := journal(words, api.Pair{At: 1, Word: 1}, api.Pair{At: 2, Word: 3})
	stands[11] = 823 // another place
	x := on(t, stands)
	x.w = r.w
	x.wantState("a torn pair")
}

// P12.1, P5: of any words, what is mounted is sound; all others are ErrCorrupt.
func TestMountAnyWords(t *testing.T) {
	r := newRig(t, api.Old)
	r.are(mkdir("d"), mk("d/a"), write("d/a", 70, text(400)), ln("d/a", "b"), aim(api.New), step(), step(), mk("c"))
	words := r.f.Sheet().Words()
	d := dice(1)
	counts := map[api.Errno]int{}
	for turn := range 8000 {
		l := append([]uint64{}, words...)
		for range 1 + d.upTo(2) {
			at := d.upTo(3128)
			switch d.upTo(4) {
			case 0:
				at = 816 + d.upTo(64)
			case 1:
				at = d.upTo(16)
			case 2:
				at = 1080 + d.upTo(160)
			}
			switch d.upTo(3) {
			case 0:
				l[at] ^= 1 << d.upTo(64)
			case 1:
				l[at] = uint64(d.upTo(300))
			default:
				l[at] = l[d.upTo(3128)]
			}
		}
		if turn%50 == 0 {
			l = loaded(t, anyOf(3128))
			copy(l, words[:d.upTo(3128)])
		}
		want := api.OK
		if _, ok := check.Sound(tx.New(l)); !ok {
			want = api.ErrCorrupt
		}
		counts[want]++
		p := pmem.Of(l)
		f, e := vfs.Mount(p)
		if e != want || (f != nil) != (want == api.OK) {
			t.Fatalf("turn %d: %v, want %v", turn, e, want)
		}
		if l[8] = 0; p.Dirty() != 0 {
			t.Fatalf("turn %d: %d words are dirty", turn, p.Dirty())
		}
		wantWords(t, "any words", p, l)
	}
	if counts[api.OK] < 500 || counts[api.ErrCorrupt] < 500 {
		t.Errorf("mounts: %v", counts)
	}
}
