package vfs_test

import (
	"math"
	"slices"
	"strings"
	"testing"

	"imago/api"
	"imago/pmem"
	"imago/vfs"
)

// dice is a fixed row of numbers, so that each run asks the same.
type dice uint64

func (d *dice) upTo(n int) int {
	*d = *d*6364136223846793005 + 1442695040888963407
	return int(uint64(*d) >> 33 % uint64(n))
}

// names are few, so that ops meet one another; the last ones are none.
var names = []string{"a", "b", "c", "dd", "eee", "sevenby", "!", "~", "...", "eightbyt", "", ".", "..", "a/b", "a b", "\x7f", "é", "\x00"}

func (d *dice) name() string {
	if d.upTo(40) == 0 {
		return names[d.upTo(len(names))]
	}
	return names[d.upTo(9)]
}

// path goes mostly where there is something.
func (d *dice) path(w *world) []string {
	var l []string
	for i := 0; d.upTo(12) > 0; {
		n := w.nodes[i]
		if n.kind != 2 && d.upTo(8) > 0 {
			break
		}
		name := d.name()
		if n.count > 0 && d.upTo(3) > 0 {
			name = n.names[d.upTo(n.count)].Name
		}
		l = append(l, name)
		if i = n.find(name); i < 0 && d.upTo(10) > 0 {
			break
		}
		i = max(i, 0)
	}
	return l
}

// number is mostly one of a file's bytes, now and then one that is none.
func (d *dice) number() int {
	if d.upTo(25) == 0 {
		return []int{-1, math.MinInt, 831, 832, 833, math.MaxInt, math.MaxInt - 100, 64, 1 << 32}[d.upTo(9)]
	}
	return d.upTo(900)
}

// op is of each kind; kinds that make are more often there than those that take away.
func (d *dice) op(w *world) vfs.Op {
	kinds := []int{0, 0, 0, 0, 0, 1, 1, 1, 2, 2, 2, 2, 2, 2, 2, 3, 3, 4, 4, 5, 5, 6, 7, 7, 7, 8, 8, 8, 9, 10, 12, 12, 12, 12}
	o := vfs.Op{Kind: kinds[d.upTo(len(kinds))], Path: d.path(w), To: d.path(w), Off: d.number(), N: d.number()}
	switch {
	case d.upTo(60) == 0:
		o.Kind, o.N = 11, 1+d.upTo(2)
	case d.upTo(200) == 0:
		o.Kind = []int{-1, 13, 14, math.MinInt, math.MaxInt, 1 << 32, 11}[d.upTo(7)]
	case o.Kind == 2 && d.upTo(2) == 0:
		o.Off = d.upTo(400)
	}
	if o.Kind == 2 && d.upTo(20) > 0 {
		o.Data = []byte(strings.Repeat(string(rune('!'+d.upTo(90))), d.upTo(d.upTo(900)+1)))
	}
	return o
}

// crowd lets few blocks, and few entries of a directory, be free, so that ops lack some.
func (r *rig) crowd(d *dice) {
	r.are(mkdir("a"), mkdir("a/b"), mk("a/c"))
	for k := range 20 + d.upTo(4) {
		r.are(ln("a/c", "a/b/x"+string(rune('a'+k))))
	}
	r.leave(d.upTo(12))
}

// P12.2, P1, P3: rows of ops of all kinds over any trees tell and do what the plain model does, which knows no formats; in both of them, and while they turn.
func TestAgainstModel(t *testing.T) {
	counts := map[int]map[api.Errno]int{}
	for seed := range 40 {
		d := dice(seed)
		r := newRig(t, formats[d.upTo(2)])
		if seed%2 > 0 {
			r.crowd(&d)
		}
		for turn := range 200 {
			o := d.op(&r.w)
			got := r.do(o)
			if counts[o.Kind] == nil {
				counts[o.Kind] = map[api.Errno]int{}
			}
			counts[o.Kind][got.E]++
			if turn%25 == 0 {
				if got := asked(t, r.f); got != r.w {
					t.Fatalf("the ops tell %v, want %v", got, r.w)
				}
			}
		}
	}
	for kind, l := range [][]api.Errno{
		{0, 1, 2, 3, 4, 7}, {0, 1, 2, 3, 4, 7}, {0, 1, 2, 4, 5, 7, 8}, {0, 1, 2, 4, 5}, {0, 1, 2, 4, 5, 8}, {0, 1, 2, 4, 5},
		{0, 1, 2, 4, 6}, {0, 1, 2, 4, 5, 6, 7, 11}, {0, 1, 2, 3, 4, 5, 7}, {0, 1, 2, 4}, {0, 1, 2, 4}, {0, 1}, {0, 7},
	} {
		for _, e := range l {
			if counts[kind][e] == 0 {
				t.Errorf("no op of the kind %d was told %d", kind, e)
			}
		}
		if len(counts[kind]) != len(l) {
			t.Errorf("ops of the kind %d were told %v, want just %v", kind, counts[kind], l)
		}
	}
}

// crash lets the power come back, with some dirty words kept, and mounts anew, now and then with a crash in that, too.
func (r *rig) crash(d *dice) {
	r.t.Helper()
	keep := func() []uint8 {
		l := make([]uint8, d.upTo(6))
		for k := range l {
			l[k] = uint8(d.upTo(256))
		}
		return l
	}
	r.p.Crash(keep())
	for d.upTo(2) == 0 {
		r.p.Fuse(d.upTo(120))
		f, e := vfs.Mount(r.p)
		if e != api.OK && (e != api.ErrLost || f != nil) {
			r.t.Fatalf("mount: %v", e)
		}
		r.p.Crash(keep())
	}
	r.f = mount(r.t, r.p)
}

// P2: rows of ops, with the power going at any deed of them and of mounts: each op that was answered is there, each that was lost is there as a whole, or not at all.
func TestPowerAgainstModel(t *testing.T) {
	var lost, did, answered int
	for seed := range 45 {
		d := dice(1000 + seed)
		r := newRig(t, formats[d.upTo(2)])
		if d.upTo(4) == 0 {
			r.crowd(&d)
		}
		for range 150 {
			o := d.op(&r.w)
			if d.upTo(2) == 0 {
				r.do(o)
				continue
			}
			want, next := r.w.do(o)
			r.p.Fuse(d.upTo(100))
			got := r.f.Do(o)
			switch {
			case got.E == api.ErrLost:
				lost++
				if !alike(got, vfs.Result{E: api.ErrLost}) {
					t.Fatalf("%v: %v", o, got)
				}
			case got.E == api.ErrSpace:
				next = r.w
			case !alike(got, want):
				t.Fatalf("%v: %v, want %v", o, got, want)
			default:
				answered++
				r.w = next
			}
			r.crash(&d)
			if next != r.w && seen(r.f.Sheet()) == next {
				did++
				r.w = next
			}
			r.wantState("behind a crash")
			if t.Failed() {
				t.Fatalf("seed %d: the op was %v", seed, o)
			}
		}
		if got := asked(t, r.f); got != r.w {
			t.Fatalf("the ops tell %v, want %v", got, r.w)
		}
	}
	if lost < 300 || did < 50 || lost-did < 100 || answered < 300 {
		t.Errorf("%d were lost, %d of them done, %d answered", lost, did, answered)
	}
}

// turns are the formats of all inodes that are there.
func turns(f *vfs.FS) []int {
	var l []int
	s := f.Sheet()
	for i := range 32 {
		if w := s.Get(824 + 8*i); w != 0 {
			l = append(l, int(w&0xff))
		}
	}
	return l
}

// P3: ops tell the same with aims and steps between as without, till a block lacks.
func TestUnseen(t *testing.T) {
	count := 0
	for seed := range 20 {
		d := dice(2000 + seed)
		still, turned := newRig(t, formats[seed%2]), newRig(t, formats[seed/2%2])
		for range 100 {
			o := d.op(&still.w)
			if o.Kind == 11 || o.Kind == 12 {
				turned.do(o)
				continue
			}
			if d.upTo(20) == 0 {
				turned.do(aim(1 + d.upTo(2)))
			}
			want, got := still.do(o), turned.do(o)
			if want.E != got.E && (want.E == api.ErrSpace || got.E == api.ErrSpace) {
				break
			}
			if !alike(want, got) || still.w.nodes != turned.w.nodes {
				t.Fatalf("%v: %v, want %v", o, got, want)
			}
			count++
		}
	}
	if count < 1500 {
		t.Errorf("%d ops were asked", count)
	}
}

// P4, P5: with room, behind 32 steps all inodes bear the target's format, whatever crashes were between; there and back the tree is the same.
func TestComesToItsEnd(t *testing.T) {
	crashed := 0
	for seed := range 30 {
		d := dice(3000 + seed)
		r := newRig(t, formats[d.upTo(2)])
		for range 120 {
			r.do(d.op(&r.w))
		}
		was := r.w.nodes
		for _, format := range []int{api.Old, api.New, api.Old} {
			r.are(aim(3-format), aim(format)) // from the first inode on, whatever the target was
			for k := 0; k < 32; {
				r.p.Fuse(d.upTo(200))
				got := r.f.Do(step())
				if got.E == api.ErrLost {
					crashed++
				} else if got.E != api.OK || got.N != (k+1)/32 {
					t.Fatalf("the step %d tells %v", k, got)
				}
				r.crash(&d)
				if c := r.f.Sheet().Get(2); c == uint64(k+1) {
					k++
				} else if c != uint64(k) || got.E == api.OK {
					t.Fatalf("the cursor is %d behind the step %d", c, k)
				}
			}
			if l := turns(r.f); slices.Max(l) != format || slices.Min(l) != format {
				t.Fatalf("aimed at %d the formats are %v", format, l)
			}
			r.w.cursor = 32
			if r.wantState("turned"); r.w.nodes != was {
				t.Fatalf("turned the tree is %v, it was %v", r.w.nodes, was)
			}
		}
	}
	if crashed < 200 {
		t.Errorf("%d steps were lost", crashed)
	}
}

// R7: two file systems on two memories don't hang on one another; one that was mounted twice is the same.
func TestApart(t *testing.T) {
	a, b := newRig(t, api.Old), newRig(t, api.New)
	a.are(mk("a"), write("a", 0, "hello"))
	b.wantState("the other")
	b.are(mkdir("a"))
	a.wantState("the first")
	again := mount(t, a.p)
	if got := again.Do(read("a", 0, 9)); string(got.Data) != "hello" {
		t.Errorf("mounted twice: %v", got)
	}
}

// R1: a file system that nobody mounted has no memory.
func TestNotMounted(t *testing.T) {
	f := &vfs.FS{}
	for kind := -1; kind < 14; kind++ {
		if got := f.Do(vfs.Op{Kind: kind}); !alike(got, vfs.Result{E: api.ErrLost}) {
			t.Errorf("the kind %d: %v", kind, got)
		}
	}
	if s := f.Sheet(); s == nil || len(s.Words()) != 3128 {
		t.Error("no sheet")
	}
}

// R1: ops on words that were stored to otherwise end, and don't panic.
func TestDamaged(t *testing.T) {
	r := newRig(t, api.Old)
	r.are(mkdir("a"), mk("a/b"), write("a/b", 70, text(400)), ln("a/b", "b"), mkdir("dd"), aim(api.New), step(), step())
	words := r.f.Sheet().Words()
	d := dice(5)
	for range 1500 {
		p := pmem.Of(words)
		f := mount(t, p)
		for range 1 + d.upTo(8) {
			at := 816 + d.upTo(300)
			w, _ := p.Load(at)
			p.Store(at, []uint64{0, uint64(d.upTo(300)), w ^ 1<<d.upTo(64), words[816+d.upTo(300)]}[d.upTo(4)])
		}
		for range 6 {
			o := d.op(&r.w)
			if got := f.Do(o); got.E != api.OK && !alike(got, vfs.Result{E: got.E}) {
				t.Fatalf("%v: %v", o, got)
			}
		}
	}
}
