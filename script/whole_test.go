package script_test

import (
	"slices"
	"testing"

	"imago/api"
	"imago/inode"
	"imago/palloc"
	"imago/pmem"
	"imago/script"
	"imago/vfs"
)

// twin does a script's steps one by one, deed by deed, as the chapter says, beside a plain model.
type twin struct {
	t  *testing.T
	p  *pmem.PM
	f  *vfs.FS
	is *tree

	steps   []script.Step
	results []vfs.Result
	counts  struct{ lost, did, space, last, later int }
}

func newTwin(t *testing.T, words []uint64) *twin {
	t.Helper()
	w := &twin{t: t, p: pmem.Of(words)}
	w.mount()
	w.is = asked(t, w.f)
	return w
}

func (w *twin) mount() {
	w.t.Helper()
	f, e := vfs.Mount(w.p)
	if e != api.OK {
		w.t.Fatalf("mount: %v", e)
	}
	w.f = f
}

// step does one, and asks whether what it tells, and what is there then, is the model's.
func (w *twin) step(x script.Step) {
	w.t.Helper()
	was := files(loaded(w.t, w.p))
	if x.Fuse {
		w.p.Fuse(x.N)
	}
	got := w.f.Do(x.O)
	_, power := w.p.Load(0)
	if power != api.OK || x.Crash {
		w.p.Crash(x.Keep)
		w.mount()
	}
	want, next := w.is.do(x.O)
	switch {
	case got.E == api.ErrLost && power == api.ErrLost:
		w.counts.lost++
		if !x.Fuse {
			w.counts.later++
		}
		if !slices.Equal(files(loaded(w.t, w.p)), was) {
			w.counts.did++
			w.is = next
			wantTree(w.t, w.f, next)
		}
	case got.E == api.ErrSpace && want.E == api.OK && slices.Contains([]int{0, 1, 2, 7, 8, 12}, x.O.Kind):
		w.counts.space++
	case !alike(got, want):
		w.t.Fatalf("%v: %v, want %v", x.O, got, want)
	default:
		if power != api.OK {
			w.counts.last++
		}
		w.is = next
	}
	w.steps, w.results = append(w.steps, x), append(w.results, got)
}

// rerun runs all the steps at once, on the same words: the results are the same, and so are the words, the deeds and the tree.
func (w *twin) rerun(words []uint64) {
	w.t.Helper()
	p := pmem.Of(words)
	f, results := ran(w.t, p, w.steps)
	wantResults(w.t, results, w.results)
	w.p.Fuse(-1)
	if !slices.Equal(loaded(w.t, p), loaded(w.t, w.p)) || p.Deeds() != w.p.Deeds() {
		w.t.Errorf("at once the words are others than one by one: %d deeds, %d", p.Deeds(), w.p.Deeds())
	}
	wantTree(w.t, f, w.is)
	p.Crash(nil)
	f, _ = ran(w.t, p, nil)
	wantTree(w.t, f, w.is)
}

// crowded are words with few blocks that are free.
func crowded(t *testing.T, format, blocks int) []uint64 {
	t.Helper()
	p := pmem.Of(town(t, format))
	ran(t, p, plain(mkdir("x")))
	f, _ := ran(t, p, writes("full", manyNames(1)))
	for k := 0; palloc.Free(f.Sheet()) > blocks; k++ {
		name := "x/" + manyNames(24)[k]
		if f, _ = ran(t, p, plain(mk(name))); palloc.Free(f.Sheet()) > blocks+14 {
			f, _ = ran(t, p, plain(write(name, 0, text(832))))
			continue
		}
		for block := 0; block < 5 && palloc.Free(f.Sheet()) > blocks; block++ {
			f, _ = ran(t, p, plain(write(name, 64*block, "x")))
		}
	}
	return f.Sheet().Words()
}

// P13.1, P1, P2: scripts of ops of all kinds with fuses and crashes, aims and steps between, at once and one by one: both tell the same, and what the plain model tells.
func TestAgainstModel(t *testing.T) {
	var lost, did, space, last, later int
	for seed := range 60 {
		d := dice(seed)
		words := formatted(t, formats[seed%2])
		start := loaded(t, words)
		switch seed % 3 {
		case 1:
			start = town(t, formats[seed%2])
		case 2:
			start = crowded(t, formats[seed%2], d.upTo(12))
		}
		w := newTwin(t, start)
		for range 120 {
			w.step(d.step(w.is))
		}
		w.rerun(start)
		if t.Failed() {
			t.Fatalf("the seed is %d", seed)
		}
		lost, did, space, last, later = lost+w.counts.lost, did+w.counts.did, space+w.counts.space, last+w.counts.last, later+w.counts.later
	}
	if lost < 500 || did < 50 || lost-did < 300 || space < 30 || last < 5 || later < 50 {
		t.Errorf("%d were lost, %d of them done, %d by fuses from before; %d lacked room; %d took the last power", lost, did, later, space, last)
	}
}

// P13.1: steps that are run by as many scripts tell the same as one script of all of them, where no fuse is left over.
func TestOneByOne(t *testing.T) {
	for seed := range 12 {
		d := dice(100 + seed)
		words := town(t, formats[seed%2])
		w := newTwin(t, words)
		p := pmem.Of(words)
		for range 60 {
			x := d.step(w.is)
			x.Crash = x.Crash || x.Fuse
			w.step(x)
			_, results := ran(t, p, []script.Step{x})
			wantResults(t, results, w.results[len(w.results)-1:])
			if !slices.Equal(loaded(t, p), loaded(t, w.p)) {
				t.Fatalf("the seed is %d: behind %v the words are others", seed, x)
			}
		}
		w.rerun(words)
	}
}

// P1: each op tells what a plain tree would, ErrSpace aside, and that isn't told where there is room.
func TestTree(t *testing.T) {
	for seed := range 30 {
		d := dice(200 + seed)
		is := newTree(formats[seed%2])
		var l []script.Step
		var want []vfs.Result
		for range 60 {
			o := d.op(is)
			if len(o.Data) > 100 {
				o.Data = o.Data[:100]
			}
			r, next := is.do(o)
			l, want, is = append(l, script.Step{O: o}), append(want, r), next
		}
		f, got := ran(t, formatted(t, formats[seed%2]), l)
		wantResults(t, got, want)
		wantTree(t, f, is)
	}
}

// P1: what ErrSpace is told of is as it was: where an inode, an entry, or a block lacks.
func TestSpace(t *testing.T) {
	for _, format := range formats {
		p := formatted(t, format)
		l := plain(mkdir("d"), mk("d/f"), mkdir("e"))
		for _, name := range manyNames(24) {
			l = append(l, plain(mk("e/"+name))...)
		}
		l = append(l, plain(ln("d/f", "e/x"), mv("d/f", "e/x"), mk("e/x"), mkdir("e/x"), mk("1"), mk("2"), mk("3"), mk("4"), mk("5"))...)
		f, results := ran(t, p, l)
		wantErrors(t, results[27:], api.ErrSpace, api.ErrSpace, api.ErrSpace, api.ErrSpace, 0, 0, 0, 0, api.ErrSpace)
		if is := asked(t, f); len(is.at) != 32 || is.things[2].links != 1 || is.at["/d/f"] != 2 {
			t.Errorf("the tree is %v", is)
		}
		words := crowded(t, format, 0)
		f, results = ran(t, pmem.Of(words), append(plain(write("a", 700, "x"), write("d/c", 100, text(300))), crashed(write("a", 0, "more"))))
		wantErrors(t, results, api.ErrSpace, api.ErrSpace, api.OK)
		if r := f.Do(read("a", 0, 9)); string(r.Data) != "moreo" {
			t.Errorf("read: %v", r)
		}
	}
}

// P3: with aims, steps and crashes between, all other ops tell the same as without.
func TestUnseen(t *testing.T) {
	for seed := range 30 {
		d := dice(300 + seed)
		is := newTree(api.Old)
		var still, turned []script.Step
		var which []int
		for range 60 {
			o := d.op(is)
			if o.Kind == 11 || o.Kind == 12 {
				continue
			}
			if len(o.Data) > 100 {
				o.Data = o.Data[:100]
			}
			_, is = is.do(o)
			still = append(still, script.Step{O: o})
			for range d.upTo(4) {
				between := []script.Step{{O: step()}, {O: step()}, crashed(step()), fused(step(), d.upTo(60), d.keep()...), crashed(aim(1 + d.upTo(2)))}
				turned = append(turned, between[d.upTo(5)])
			}
			which = append(which, len(turned))
			turned = append(turned, script.Step{O: o, Fuse: true, N: -1})
		}
		f, want := ran(t, formatted(t, formats[seed%2]), still)
		g, results := ran(t, formatted(t, formats[seed/2%2]), turned)
		var got []vfs.Result
		for _, k := range which {
			got = append(got, results[k])
		}
		wantResults(t, got, want)
		a, b := asked(t, f), asked(t, g)
		b.target, b.cursor = a.target, a.cursor
		if !a.same(b) {
			t.Errorf("turned, the tree is %v, else %v", b, a)
		}
	}
}

// P4: with room, behind as many steps as there are inodes, whatever crashes were between, all inodes bear the target's format.
func TestComesToItsEnd(t *testing.T) {
	lost := 0
	for seed := range 40 {
		d := dice(400 + seed)
		format := formats[seed%2]
		p := pmem.Of(town(t, 3-format))
		f, _ := ran(t, p, plain(aim(format)))
		is, done := asked(t, f), 0
		for turn := 0; done < 32; turn++ {
			if turn > 1000 {
				t.Fatalf("it stays behind %d steps", done)
			}
			var results []vfs.Result
			f, results = ran(t, p, []script.Step{crashed(ls("")), {O: step(), Fuse: true, N: d.upTo([]int{20, 20, 900}[d.upTo(3)]), Crash: d.upTo(2) == 0, Keep: d.keep()}})
			r, was := results[1], done
			if r.E == api.ErrLost {
				lost++
			} else if r.E != api.OK || r.N != (done+1)/32 {
				t.Fatalf("behind %d steps: %v", done, r)
			}
			if done = int(f.Sheet().Get(api.CursorAt)); done != was+1 && (done != was || r.E == api.OK) {
				t.Fatalf("behind %d steps, and %v, the cursor is %d", was, r, done)
			}
		}
		wantFormats(t, f, format)
		is.cursor = 32
		wantTree(t, f, is)
		wantFinish(t, "done", f, 5, 1, true)
	}
	if lost < 300 {
		t.Errorf("%d steps were lost", lost)
	}
}

// P4: what is made while all is turned is of the target's format, so that the steps are enough.
func TestMadeBetween(t *testing.T) {
	for _, format := range formats {
		l := plain(aim(format))
		for k := range 32 {
			l = append(l, script.Step{O: step(), Crash: k%3 == 0})
			if k%4 == 0 && k < 24 {
				name := manyNames(24)[k]
				l = append(l, plain(mk(name), write(name, 40, text(200)), rm("a"), mk("a"))...)
			}
		}
		p := pmem.Of(town(t, 3-format))
		f, results := ran(t, p, l)
		if r := results[len(results)-1]; r.E != api.OK || r.N != 1 {
			t.Errorf("the last step tells %v", r)
		}
		wantFormats(t, f, format)
	}
}

// wantBlocks asks that just those blocks are used that inodes have.
func wantBlocks(t *testing.T, f *vfs.FS) {
	t.Helper()
	s := f.Sheet()
	has := map[int]int{}
	for i := range api.Inodes {
		for _, b := range inode.All(s, i) {
			has[b]++
		}
	}
	for b := 1; b < api.Blocks; b++ {
		if palloc.Used(s, b) != (has[b] == 1) {
			t.Errorf("of the block %d, which %d have, it is told %v", b, has[b], palloc.Used(s, b))
		}
	}
}

// P5: turned to the new format, and to the old one, with crashes between, the tree is the same; the used blocks are just those that inodes have.
func TestThereAndBack(t *testing.T) {
	for seed := range 12 {
		d := dice(500 + seed)
		p := pmem.Of(town(t, api.Old))
		f, _ := ran(t, p, []script.Step{{O: rm("full/nb")}, {O: write("h", 500, text(90+seed))}, crashed(size("d/b", 70*seed))})
		script.Finish(f, 40)
		wantFormats(t, f, api.Old)
		is := asked(t, f)
		for _, format := range []int{api.New, api.Old, api.New, api.Old} {
			l := plain(aim(format))
			for range 16 {
				l = append(l, script.Step{O: step(), Crash: d.upTo(2) == 0}, fused(step(), d.upTo(100), d.keep()...), script.Step{O: ls("d"), Fuse: true, N: -1})
			}
			f, _ = ran(t, p, l)
			if _, done := script.Finish(f, 32); !done {
				t.Fatal("there are steps left")
			}
			is.target = format
			wantFormats(t, f, format)
			wantTree(t, f, is)
			wantBlocks(t, f)
		}
	}
}

// P5: whatever words there are, what is mounted is sound, or it is told that it isn't.
func TestAnyWords(t *testing.T) {
	words := standing(t, town(t, api.New), []api.Pair{{At: api.CursorAt, Word: 1}, {At: api.CursorAt, Word: 2}})
	d := dice(600)
	var mounted, refused int
	for n := range 3000 {
		bent := slices.Clone(words)
		for range 1 + d.upTo(2) {
			at := d.upTo(api.BlocksAt)
			if n%3 > 0 {
				at = []int{api.MagicAt, api.TargetAt, api.CursorAt, api.LogAt, api.LogAt + d.upTo(6), api.BitsAt + d.upTo(4), api.BlocksAt + d.upTo(300), d.upTo(8)}[d.upTo(8)]
			}
			bent[at] = []uint64{0, uint64(d.upTo(300)), bent[at] ^ 1<<d.upTo(64), words[d.upTo(api.Words)]}[d.upTo(4)]
		}
		p := pmem.Of(bent)
		f, results, e := script.Run(p, []script.Step{{O: ls("")}, fused(mk("x"), n%50, d.keep()...), {O: step()}, crashed(kindOf(13)), {O: d.op(newTree(1))}})
		switch {
		case e == api.ErrCorrupt && f == nil && len(results) == 0:
			refused++
		case e == api.OK && f != nil && len(results) == 5:
			mounted++
			wantSound(t, p, f)
		default:
			t.Fatalf("%v, %v, %v", f, results, e)
		}
	}
	if mounted < 500 || refused < 500 {
		t.Errorf("%d were mounted, %d refused", mounted, refused)
	}
	for range 200 { // of nothing but dice
		bent := make([]uint64, api.Words)
		for at := range bent {
			bent[at] = uint64(d.upTo(1<<31)) << d.upTo(40)
		}
		bent[api.MagicAt], bent[api.LogAt] = api.Magic, 0 // no commit, so that nothing is to be done away with
		wantNone(t, "of any words", pmem.Of(bent), api.ErrCorrupt)
	}
}

// Make a, write hello, aim at the new format, 32 steps: read tells hello, with a crash behind each step, too.
func TestHello(t *testing.T) {
	for _, crash := range []bool{false, true} {
		l := plain(mk("a"), write("a", 0, "hello"), aim(api.New))
		for range 32 {
			l = append(l, script.Step{O: step(), Crash: crash})
		}
		f, results := ran(t, formatted(t, api.Old), append(l, script.Step{O: read("a", 0, 5)}))
		if string(results[35].Data) != "hello" || results[34].N != 1 || results[33].N != 0 {
			t.Errorf("the last results are %v", results[33:])
		}
		wantFormats(t, f, api.New)
	}
}

// A directory of 24 entries: six blocks and a list in the old format, eight or more in the new one.
func TestFullDirectory(t *testing.T) {
	for _, format := range formats {
		l := plain(mkdir("d"), mk("f"))
		for _, name := range manyNames(24) {
			l = append(l, plain(ln("f", "d/"+name))...)
		}
		f, _ := ran(t, formatted(t, format), l)
		if n := len(inode.All(f.Sheet(), 1)); format == api.Old && n != 7 || format == api.New && n < 8 {
			t.Errorf("in the format %d it has %d blocks", format, n)
		}
		f.Do(aim(3 - format))
		script.Finish(f, 32)
		if n := len(inode.All(f.Sheet(), 1)); format == api.New && n != 7 || format == api.Old && n < 8 {
			t.Errorf("turned from the format %d it has %d blocks", format, n)
		}
	}
}

// A rename of a directory into itself: ErrLoop.
func TestLoop(t *testing.T) {
	_, results := ran(t, formatted(t, api.New), plain(mkdir("d"), mkdir("d/e"), mv("d", "d/x"), mv("d", "d/e/x"), mv("d", "d/e"), mv("d", "d"), mv("d/e", "e")))
	wantErrors(t, results, 0, 0, api.ErrLoop, api.ErrLoop, api.ErrLoop, 0, 0)
}
