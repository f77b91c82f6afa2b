package vfs_test

import (
	"slices"
	"testing"

	"imago/api"
	"imago/pmem"
	"imago/vfs"
)

// keeps are ways in which a crash keeps dirty words: none, all, each second one, some.
var keeps = [][]uint8{nil, {1}, {1, 0}, {0, 0, 1, 1, 0}}

// powerOps are ops on the town that alter something, of each kind that does.
func powerOps() []vfs.Op {
	return []vfs.Op{
		mk("d/x"), mkdir("x"), write("a", 3, text(70)), write("a", 200, text(200)), write("d/b", 0, text(400)), size("h", 100), size("h", 500), size("h", 0),
		rm("a"), rm("h"), rm("full/n3"), rmdir("g"), rmdir("d/e/z"), mv("a", "x"), mv("a", "d/b"), mv("d/e", "g"), mv("full/n", "d/n"), mv("full/n", "full/x"),
		ln("h", "d/e/h"), aim(api.Old), aim(api.New), step(),
	}
}

// files are a memory's words without those of the journal.
func files(l []uint64) []uint64 {
	return append(slices.Clone(l[:8]), l[816:]...)
}

// behind is a memory on which an op was done, and the deeds that it took.
func behind(t *testing.T, words []uint64, o vfs.Op) (*pmem.PM, int) {
	t.Helper()
	p := pmem.Of(words)
	f, deeds := mount(t, p), p.Deeds()
	if got := f.Do(o); got.E != api.OK {
		t.Fatalf("%v: %v", o, got)
	}
	return p, p.Deeds() - deeds
}

// cut does an op till the power goes behind n deeds, asks what it tells then, and crashes.
func cut(t *testing.T, words []uint64, o vfs.Op, n, deeds int, keep []uint8) *pmem.PM {
	t.Helper()
	p := pmem.Of(words)
	f := mount(t, p)
	p.Fuse(n)
	got := f.Do(o)
	if lost := n < deeds || n == 0; lost && !alike(got, vfs.Result{E: api.ErrLost}) || !lost && got.E != api.OK {
		t.Errorf("%v: %v with the power for %d deeds of %d", o, got, n, deeds)
	}
	for kind := -1; n < deeds && kind < 14; kind += 3 {
		if got := f.Do(vfs.Op{Kind: kind, Path: path("d"), To: path("x")}); !alike(got, vfs.Result{E: api.ErrLost}) {
			t.Errorf("without power the kind %d: %v", kind, got)
		}
	}
	if _, e := vfs.Mount(p); n <= deeds && e != api.ErrLost {
		t.Errorf("without power a mount: %v", e)
	}
	p.Crash(keep)
	return p
}

// P2: where the power goes at any deed of an op, whatever dirty words are kept, the op is done as a whole at the next mount, or not at all; answered, it is done.
func TestPower(t *testing.T) {
	for _, what := range []string{"made in 1", "in part turned from 1", "in part turned from 2"} {
		words := towns(t)[what].f.Sheet().Words()
		for _, o := range powerOps() {
			done, deeds := behind(t, words, o)
			is, was := files(loaded(t, done)), files(words)
			if slices.Equal(is, was) {
				continue // aimed at what is the target already
			}
			before := 0
			for n := range deeds + 1 {
				p := cut(t, words, o, n, deeds, keeps[n%len(keeps)])
				f := mount(t, p)
				switch got := files(f.Sheet().Words()); {
				case slices.Equal(got, is):
				case slices.Equal(got, was) && n < deeds:
					before++
				default:
					t.Errorf("%s: %v is done in part, behind %d deeds of %d", what, o, n, deeds)
				}
				if p.Dirty() != 0 {
					t.Errorf("%s: %v: %d words are dirty", what, o, p.Dirty())
				}
			}
			if before == 0 || before == deeds {
				t.Errorf("%s: %v was there before %d of %d deeds", what, o, before, deeds)
			}
			if t.Failed() {
				return
			}
		}
	}
}

// P2: with each way to keep words at each deed, for one op that alters much.
func TestPowerKeeps(t *testing.T) {
	words := town(t, api.New).f.Sheet().Words()
	o := write("d/b", 30, text(300))
	done, deeds := behind(t, words, o)
	is, was := files(loaded(t, done)), files(words)
	for n := range deeds {
		for _, keep := range append(keeps, []uint8{0, 1}, []uint8{255, 2, 4, 7}, []uint8{0, 0, 0, 0, 0, 0, 0, 0, 1}) {
			got := files(mount(t, cut(t, words, o, n, deeds, keep)).Sheet().Words())
			if !slices.Equal(got, is) && !slices.Equal(got, was) {
				t.Fatalf("done in part, behind %d deeds, kept %v", n, keep)
			}
		}
	}
}

// P2: the power goes as a commit word is stored: kept, the op is done at the next mount; not kept, it never was.
func TestPowerAtCommitWord(t *testing.T) {
	for _, o := range powerOps()[:19] {
		words := town(t, api.Old).f.Sheet().Words()
		done, deeds := behind(t, words, o)
		for n := range deeds {
			kept := cut(t, words, o, n, deeds, []uint8{1})
			if w, _ := kept.Load(8); w == 0 {
				continue
			}
			not := cut(t, words, o, n, deeds, nil)
			if got := files(mount(t, kept).Sheet().Words()); !slices.Equal(got, files(loaded(t, done))) {
				t.Errorf("%v: kept, it isn't done", o)
			}
			if got := files(mount(t, not).Sheet().Words()); !slices.Equal(got, files(words)) {
				t.Errorf("%v: not kept, it is otherwise", o)
			}
			break
		}
	}
}

// P2: where the power goes at any deed of a mount, too, an op that was committed is done at the one behind.
func TestPowerInMount(t *testing.T) {
	words := town(t, api.Old).f.Sheet().Words()
	for _, o := range []vfs.Op{write("d/b", 0, text(400)), mv("a", "d/b"), rm("h"), step(), mkdir("x")} {
		if o.Kind == 12 {
			aimed, _ := behind(t, words, aim(api.New))
			words = loaded(t, aimed)
		}
		done, deeds := behind(t, words, o)
		is := files(loaded(t, done))
		stands := loaded(t, cut(t, words, o, deeds-4, deeds, nil))
		whole := pmem.Of(stands)
		mount(t, whole)
		if whole.Deeds() < 6 {
			t.Fatalf("%v: a mount of %d deeds", o, whole.Deeds())
		}
		for n := range whole.Deeds() + 1 {
			for _, keep := range keeps {
				p := pmem.Of(stands)
				p.Fuse(n)
				if f, e := vfs.Mount(p); e != api.ErrLost || f != nil {
					t.Errorf("%v: a mount with the power for %d deeds of %d: %v", o, n, whole.Deeds(), e)
				}
				p.Crash(keep)
				if got := files(mount(t, p).Sheet().Words()); !slices.Equal(got, is) {
					t.Errorf("%v: mounted again, behind %d deeds of %d, it isn't done", o, n, whole.Deeds())
				}
			}
		}
	}
}

// P12.2: ops that alter nothing are ErrLost, too, where the power is gone, as are those with errors of their own.
func TestNoPower(t *testing.T) {
	r := town(t, api.Old)
	r.p.Fuse(0)
	for _, o := range []vfs.Op{
		ls(""), stat("a"), read("a", 0, 5), write("a", 0, ""), aim(api.Old), step(), mv("a", "a"),
		ls("a"), stat("nil"), read("d", 0, 5), write("a", -1, "x"), mk(""), mk("a"), rm("nil"), rmdir(""), mv("d", "d/e"), aim(3), {Kind: 13},
	} {
		if got := r.f.Do(o); !alike(got, vfs.Result{E: api.ErrLost}) {
			t.Errorf("%v: %v", o, got)
		}
	}
	r.p.Crash(nil)
	r.f = mount(t, r.p)
	r.wantState("mounted again")
}

// P12.2: ops that alter nothing need no deed, so that they are answered with the power for just those ahead.
func TestLastDeed(t *testing.T) {
	words := town(t, api.New).f.Sheet().Words()
	for _, o := range powerOps()[:19] {
		done, deeds := behind(t, words, o)
		p := pmem.Of(words)
		f := mount(t, p)
		p.Fuse(deeds + 1)
		if got := f.Do(o); got.E != api.OK {
			t.Errorf("%v: %v", o, got)
		}
		for range 3 {
			if got := f.Do(ls("d")); got.E != api.OK {
				t.Errorf("behind %v: %v", o, got)
			}
		}
		p.Crash(nil)
		wantWords(t, "answered", p, loaded(t, done))
	}
}

// Make a, write hello, aim at the new format, 32 steps: read tells hello, whatever was lost between.
func TestHello(t *testing.T) {
	r := newRig(t, api.Old)
	r.are(mk("a"), write("a", 0, "hello"), aim(api.New))
	for range 32 {
		r.are(step())
	}
	r.tells(read("a", 0, 5), vfs.Result{Data: []byte("hello")})
	r.p.Crash(nil)
	r.f = mount(t, r.p)
	r.tells(read("a", 0, 5), vfs.Result{Data: []byte("hello")})
	if l := turns(r.f); !slices.Equal(l, []int{api.New, api.New}) {
		t.Errorf("the formats are %v", l)
	}
}
