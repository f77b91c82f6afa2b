package script_test

import (
	"math"
	"slices"
	"testing"

	"imago/api"
	"imago/plog"
	"imago/pmem"
	"imago/script"
	"imago/vfs"
)

// P13.1: each step's result, of all kinds of ops, in both formats.
func TestOps(t *testing.T) {
	for _, format := range formats {
		p := formatted(t, format)
		f, got := ran(t, p, plain(
			mk("a"), mkdir("d"), write("a", 2, "hello"), read("a", 1, 5), size("a", 4), ln("a", "d/b"), mv("d", "e"),
			stat("e/b"), ls("e"), rm("a"), aim(3-format), step(), rmdir("e"), kindOf(13), kindOf(-1), mk("e"), mv("e", "e/x"), mk("")))
		wantResults(t, got, []vfs.Result{
			{N: 1}, {N: 2}, {N: 5}, {Data: []byte("\x00hell")}, {}, {}, {},
			{N: 4, Kind: api.File, Links: 2, Ino: 1}, {Entries: []api.Entry{{Name: "b", Ino: 1}}}, {}, {}, {},
			{E: api.ErrEmpty}, {E: api.ErrArg}, {E: api.ErrArg}, {E: api.ErrExist}, {E: api.ErrLoop}, {E: api.ErrExist}})
		is := newTree(format)
		is.things[0].links, is.things[1], is.things[2] = 1, thing{api.File, 1, "\x00\x00he"}, thing{api.Dir, 1, ""}
		is.at["/e"], is.at["/e/b"], is.target, is.cursor = 2, 1, 3-format, 1
		wantTree(t, f, is)
	}
}

// P13.1: a script of no steps is mounted, and that is all.
func TestNoSteps(t *testing.T) {
	for _, l := range [][]script.Step{nil, {}} {
		words := town(t, api.New)
		p := pmem.Of(words)
		f, results := ran(t, p, l)
		if len(results) != 0 || p.Deeds() != 0 || !slices.Equal(loaded(t, p), words) {
			t.Errorf("%d results, %d deeds", len(results), p.Deeds())
		}
		if r := f.Do(read("a", 0, 9)); string(r.Data) != "hello" {
			t.Errorf("read: %v", r)
		}
	}
}

// wantNone asks for an error of Mount at first: no step is done.
func wantNone(t *testing.T, what string, p *pmem.PM, want api.Errno) {
	t.Helper()
	deeds := p.Deeds()
	for _, l := range [][]script.Step{nil, plain(ls(""), mk("a")), {fused(ls(""), 0)}, {crashed(mk("a"))}} {
		f, results, e := script.Run(p, l)
		if f != nil || len(results) != 0 || e != want {
			t.Errorf("%s: %v, %v, %v, want the error %v alone", what, f, results, e, want)
		}
	}
	if p.Deeds() != deeds {
		t.Errorf("%s: %d deeds", what, p.Deeds()-deeds)
	}
}

// P13.1: Mount's error at first, of memories that are no file system's.
func TestMountFails(t *testing.T) {
	for _, n := range []int{0, 1, 9, api.Words - 1, api.Words + 1, 10000} {
		wantNone(t, "of another size", pmem.New(n), api.ErrArg)
	}
	wantNone(t, "of noughts", pmem.New(api.Words), api.ErrCorrupt)
	words := town(t, api.Old)
	for _, x := range []api.Pair{
		{At: api.MagicAt, Word: api.Magic + 1}, {At: api.TargetAt, Word: 0}, {At: api.TargetAt, Word: 3}, {At: api.CursorAt, Word: 33},
		{At: api.BitsAt, Word: 0}, {At: api.BitsAt + 3, Word: 1 << 63}, {At: api.InodesAt, Word: 0}, {At: api.InodesAt + 8*31, Word: 7},
	} {
		bent := slices.Clone(words)
		bent[x.At] = x.Word
		p := pmem.Of(bent)
		wantNone(t, "not sound", p, api.ErrCorrupt)
		if !slices.Equal(loaded(t, p), bent) {
			t.Errorf("the words with %v are otherwise", x)
		}
	}
	p := pmem.Of(words)
	p.Fuse(0)
	wantNone(t, "without power", p, api.ErrLost)
	p.Crash(nil)
	if !slices.Equal(loaded(t, p), words) {
		t.Error("without power the words are otherwise")
	}
	p = pmem.New(9)
	p.Fuse(0)
	wantNone(t, "of another size, without power", p, api.ErrArg)
}

// standing are words in whose journal a commit of such pairs stands.
func standing(t *testing.T, words []uint64, l []api.Pair) []uint64 {
	t.Helper()
	for n := range 100 {
		p := pmem.Of(words)
		p.Fuse(n)
		plog.Commit(p, l)
		p.Crash(nil)
		if is := loaded(t, p); is[api.LogAt] != 0 {
			return is
		}
	}
	t.Fatal("no commit stands")
	return nil
}

// P13.1: a journal that stands is carried out ahead of the first step; what isn't sound by that is told.
func TestJournalStands(t *testing.T) {
	words := town(t, api.New)
	if words[api.CursorAt] != 5 {
		t.Fatalf("the cursor is %d", words[api.CursorAt])
	}
	p := pmem.Of(standing(t, words, []api.Pair{{At: api.CursorAt, Word: 1}}))
	f, _ := ran(t, p, nil)
	if got := f.Sheet().Get(api.CursorAt); got != 1 {
		t.Errorf("carried out, the cursor is %d", got)
	}
	p = pmem.Of(standing(t, words, []api.Pair{{At: api.CursorAt, Word: 33}}))
	f, results, e := script.Run(p, plain(ls("")))
	if f != nil || len(results) != 0 || e != api.ErrCorrupt {
		t.Errorf("%v, %v, %v, want ErrCorrupt alone", f, results, e)
	}
	bent := standing(t, words, []api.Pair{{At: api.CursorAt, Word: 1}})
	bent[api.LogAt]++ // of another sum, it doesn't stand
	p = pmem.Of(bent)
	f, _ = ran(t, p, nil)
	if got := files(f.Sheet().Words()); !slices.Equal(got, files(words)) {
		t.Error("a journal that doesn't stand alters something")
	}
}

// P13.1: an error of Mount behind a crash; the results so far stand beside it.
func TestMountFailsBehindCrash(t *testing.T) {
	words := town(t, api.Old)
	for _, x := range []struct {
		l    []script.Step
		want []api.Errno
		e    api.Errno
	}{
		{[]script.Step{crashed(ls(""))}, []api.Errno{0}, api.ErrCorrupt},
		{[]script.Step{fused(ls(""), 0)}, []api.Errno{api.ErrLost}, api.ErrCorrupt},
		{append(plain(stat("a"), mk("a")), crashed(mk("x")), script.Step{O: ls("")}), []api.Errno{0, api.ErrExist, 0}, api.ErrCorrupt},
		{append(plain(stat("a")), fused(mk("x"), 7), script.Step{O: ls("")}), []api.Errno{0, api.ErrLost}, api.ErrCorrupt},
		{append(plain(stat("a")), fused(stat("a"), 2), script.Step{O: mk("x")}, script.Step{O: ls("")}), []api.Errno{0, 0, api.ErrLost}, api.ErrCorrupt},
		{append(plain(mk("x")), crashed(ls("")), crashed(ls(""), 1)), []api.Errno{0, 0}, api.ErrCorrupt},
		{append(plain(mk("x")), crashed(ls(""), 0, 1), script.Step{O: ls("")}), []api.Errno{0, 0}, api.ErrCorrupt},
		{append(plain(mk("x")), crashed(ls(""), 1), crashed(rm("x")), script.Step{O: ls("x")}), []api.Errno{0, 0, 0, api.ErrNoEnt}, api.OK},
		{plain(mk("x"), ls("x")), []api.Errno{0, api.ErrNotDir}, api.OK},
	} {
		p := pmem.New(api.Words)
		for at, w := range words {
			p.Store(at, w) // never flushed, so that a crash takes all of it away
		}
		f, results, e := script.Run(p, x.l)
		if (f == nil) != (x.e != api.OK) || e != x.e {
			t.Errorf("%v: %v, %v, want %v", x.l, f, e, x.e)
		}
		wantErrors(t, results, x.want...)
	}
}

// deedsOf is how many deeds an op takes.
func deedsOf(t *testing.T, words []uint64, o vfs.Op) int {
	t.Helper()
	p := pmem.Of(words)
	if _, r := ran(t, p, plain(o)); r[0].E != api.OK {
		t.Fatalf("%v: %v", o, r[0])
	}
	return p.Deeds()
}

// P13.1: make a, with a fuse of 0: ErrLost, and it isn't there; the step behind finds a file system that is mounted anew.
func TestFuseOfNone(t *testing.T) {
	for _, x := range []script.Step{fused(mk("a"), 0), fused(mk("a"), 0, 1), {O: mk("a"), Fuse: true, Crash: true}} {
		p := formatted(t, api.New)
		f, results := ran(t, p, append([]script.Step{x}, plain(ls(""), stat("a"), mk("b"))...))
		wantResults(t, results, []vfs.Result{{E: api.ErrLost}, {}, {E: api.ErrNoEnt}, {N: 1}})
		wantErrors(t, []vfs.Result{f.Do(stat("a")), f.Do(stat("b"))}, api.ErrNoEnt, api.OK)
	}
}

// P13.1: fuses are counted by deeds, over the steps, till another one is set, or a crash comes.
func TestFuses(t *testing.T) {
	words := town(t, api.Old)
	k := deedsOf(t, words, mk("x"))
	lost := api.ErrLost
	for _, x := range []struct {
		what string
		l    []script.Step
		want []api.Errno
	}{
		{"of 1", []script.Step{fused(mk("x"), 1), {O: stat("x")}}, []api.Errno{lost, api.ErrNoEnt}},
		{"of one deed too few", []script.Step{fused(mk("x"), k-1), {O: stat("x")}}, []api.Errno{lost, 0}},
		{"of just the deeds", []script.Step{fused(mk("x"), k), {O: stat("x")}, {O: rm("x")}}, []api.Errno{0, 0, 0}},
		{"left over", []script.Step{fused(mk("x"), k+1), {O: stat("x")}, {O: rm("x")}, {O: stat("x")}}, []api.Errno{0, 0, lost, 0}},
		{"left over by ops that alter nothing", []script.Step{fused(ls(""), 1), {O: mk("a")}, {O: kindOf(13)}, {O: mk("x")}, {O: stat("x")}},
			[]api.Errno{0, api.ErrExist, api.ErrArg, lost, api.ErrNoEnt}},
		{"of 0, ops that alter nothing", []script.Step{fused(ls(""), 0), fused(stat("d"), 0), fused(read("a", 0, 5), 0), fused(aim(api.Old), 0), fused(mk("a"), 0), fused(kindOf(13), 0), {O: ls("")}},
			[]api.Errno{lost, lost, lost, lost, lost, lost, 0}},
		{"taken out", []script.Step{fused(ls(""), 3), fused(mk("x"), -1), {O: stat("x")}}, []api.Errno{0, 0, 0}},
		{"taken out by the least number", []script.Step{fused(ls(""), 3), fused(mk("x"), math.MinInt)}, []api.Errno{0, 0}},
		{"below 0", []script.Step{fused(mk("x"), -1), fused(rm("x"), -7)}, []api.Errno{0, 0}},
		{"set anew, later", []script.Step{fused(ls(""), 3), fused(mk("x"), 10*k), {O: stat("x")}}, []api.Errno{0, 0, 0}},
		{"set anew, earlier", []script.Step{fused(ls(""), 10*k), fused(mk("x"), 3), {O: stat("x")}}, []api.Errno{0, lost, api.ErrNoEnt}},
		{"taken out by a crash", []script.Step{{O: ls(""), Fuse: true, N: 3, Crash: true}, {O: mk("x")}}, []api.Errno{0, 0}},
		{"taken out as it burns", []script.Step{fused(mk("x"), 2), {O: mk("x")}, {O: rm("x")}}, []api.Errno{lost, 0, 0}},
		{"large", []script.Step{fused(mk("x"), math.MaxInt), {O: rm("x")}}, []api.Errno{0, 0}},
		{"not there, whatever its number", []script.Step{{O: mk("x"), N: 0}, {O: rm("x"), N: 3}, {O: ls(""), N: -1}}, []api.Errno{0, 0, 0}},
		{"there, and its number stays", []script.Step{fused(ls(""), 3), {O: mk("x"), N: -1}, {O: stat("x")}}, []api.Errno{0, lost, api.ErrNoEnt}},
	} {
		p := pmem.Of(words)
		_, results := ran(t, p, x.l)
		wantErrors(t, results, x.want...)
		for n := range 11 * k {
			if e := p.Fence(); e != api.OK {
				t.Errorf("at the script's end there is a fuse of %d", n)
				break
			}
		}
		if t.Failed() {
			t.Fatalf("the fuse was %s", x.what)
		}
	}
}

// P13.1: a fuse that was there ahead of the script counts too, and isn't there behind it.
func TestFuseFromBefore(t *testing.T) {
	words := town(t, api.New)
	p := pmem.Of(words)
	p.Fuse(9)
	_, results := ran(t, p, append(plain(ls(""), mk("x"), stat("x")), fused(ls(""), 2)))
	wantErrors(t, results, api.OK, api.ErrLost, api.ErrNoEnt, api.OK)
	p.Fuse(9)
	f, _ := ran(t, p, nil)
	if r := f.Do(mk("x")); r.E != api.OK {
		t.Errorf("behind a script of no steps: %v", r)
	}
}

// P13.1: a crash behind an op that was answered loses nothing, whatever is kept; nor does one that has nothing to do.
func TestCrashBehindAnswer(t *testing.T) {
	words := town(t, api.New)
	for _, o := range []vfs.Op{mk("x"), write("d/b", 30, text(300)), mv("a", "d/b"), rm("h"), step(), aim(api.Old), ls("d"), mk("a"), kindOf(13)} {
		q := pmem.Of(words)
		g, want := ran(t, q, plain(o))
		for _, keep := range [][]uint8{nil, {}, {0}, {1}, {0, 1}, {255, 2, 3}, make([]uint8, 4000), slices.Repeat([]uint8{3}, 4000)} {
			p := pmem.Of(words)
			f, got := ran(t, p, []script.Step{crashed(o, keep...)})
			wantResults(t, got, want)
			if !slices.Equal(f.Sheet().Words(), g.Sheet().Words()) || p.Deeds() != q.Deeds() {
				t.Errorf("%v: kept %v, the words are otherwise", o, keep)
			}
		}
	}
}

// P13.1: what is kept is told by the step in which the power goes, not by the one that set the fuse, nor the one behind.
func TestWhoseBits(t *testing.T) {
	words := town(t, api.New)
	k := deedsOf(t, words, mk("x"))
	at := -1
	for n := range k {
		_, r := ran(t, pmem.Of(words), []script.Step{fused(mk("x"), n, 1), {O: stat("x")}})
		if r[1].E == api.OK {
			at = n
			break
		}
	}
	if at < 0 {
		t.Fatal("no commit word is kept")
	}
	all, none := []uint8{1}, []uint8{0}
	for _, keep := range [][]uint8{all, none} {
		p := pmem.Of(words)
		_, r := ran(t, p, []script.Step{{O: ls(""), Fuse: true, N: at, Keep: none}, {O: mk("x"), Keep: keep}, {O: stat("x"), Keep: all}})
		want := api.OK
		if keep[0] == 0 {
			want = api.ErrNoEnt
		}
		wantErrors(t, r, api.OK, api.ErrLost, want)
		_, r = ran(t, pmem.Of(words), []script.Step{{O: mk("x"), Fuse: true, N: at, Keep: keep, Crash: true}, {O: stat("x"), Crash: true, Keep: none}})
		wantErrors(t, r, api.ErrLost, want)
	}
}

// R5: what is handed in stays, its spare room too, and isn't kept; what is answered is new memory.
func TestHandedIn(t *testing.T) {
	names := []string{"d", "b", "spare"}
	data := []byte("hello, spare")
	keep := []uint8{1, 0, 7}
	l := []script.Step{
		{O: vfs.Op{Kind: 2, Path: names[:2], Data: data[:5]}, Keep: keep[:2], Crash: true},
		{O: vfs.Op{Kind: 3, Path: names[:2], N: 9}},
		{O: vfs.Op{Kind: 3, Path: names[:2], N: 9}},
		{O: vfs.Op{Kind: 9, Path: names[:1]}, Fuse: true, N: 4, Keep: keep[:2]},
		{O: vfs.Op{Kind: 7, Path: names[:1], To: names[2:3]}, Keep: keep[:2]},
		{O: mk("spare"), Fuse: true, N: 3, Crash: true, Keep: keep},
	}
	p := pmem.Of(town(t, api.New))
	f, results := ran(t, p, l[:5])
	if keep[0] != 1 || keep[1] != 0 || keep[2] != 7 || string(data) != "hello, spare" || !slices.Equal(names, []string{"d", "b", "spare"}) {
		t.Errorf("what was handed in is %v, %q, %v", keep, data, names)
	}
	for k, n := range []int{2, 2, 2, 1, 1, 1} {
		x := l[k]
		if len(x.O.Path) != n || len(x.Keep) != []int{2, 0, 0, 2, 2, 3}[k] || x.Fuse != (k == 3 || k == 5) || x.Crash != (k == 0 || k == 5) {
			t.Errorf("the step %d is %v", k, x)
		}
	}
	words := f.Sheet().Words()
	clear(names)
	clear(data)
	clear(keep)
	clear(l)
	first := results[1].Data
	clear(first[:cap(first)])
	if string(results[2].Data) != "hello\x00\x00\x00\x00" {
		t.Errorf("two results share memory: %v", results[2])
	}
	results = append(results[:1], results[2:]...)
	clear(results[2].Entries)
	clear(results)
	if !slices.Equal(f.Sheet().Words(), words) {
		t.Error("the file system keeps what was handed in, or answered")
	}
	if r := f.Do(read("d/b", 0, 5)); string(r.Data) != "hello" {
		t.Errorf("read: %v", r)
	}
}

// R7: scripts on two memories don't hang on one another.
func TestApart(t *testing.T) {
	p, q := formatted(t, api.Old), formatted(t, api.New)
	f, _ := ran(t, p, []script.Step{{O: mk("a")}, fused(write("a", 0, "hello"), 9)})
	g, _ := ran(t, q, plain(mkdir("a"), mk("a/b")))
	f2, _ := ran(t, p, plain(write("a", 0, "hello")))
	if r := g.Do(ls("a")); len(r.Entries) != 1 {
		t.Errorf("the second: %v", r)
	}
	for _, x := range []*vfs.FS{f, f2} {
		if r := x.Do(read("a", 0, 9)); string(r.Data) != "hello" {
			t.Errorf("the first: %v", r)
		}
	}
}
