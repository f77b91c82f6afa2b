package vfs_test

import (
	"math"
	"slices"
	"strings"
	"testing"

	"imago/api"
	"imago/check"
	"imago/inode"
	"imago/pmem"
	"imago/tx"
	"imago/vfs"
)

var formats = []int{api.Old, api.New}

// noFormats are numbers that are no format's; some would be one's, if bits of them were lost.
var noFormats = []int{math.MinInt, -1 << 32, -1<<32 + 1, -2, -1, 0, 3, 4, 255, 256, 257, 258, 1<<32 + 1, 1<<32 + 2, math.MaxInt}

// path parts the names of a path; "" is the root.
func path(names string) []string {
	if names == "" {
		return nil
	}
	return strings.Split(names, "/")
}

func mk(p string) vfs.Op    { return vfs.Op{Kind: 0, Path: path(p)} }
func mkdir(p string) vfs.Op { return vfs.Op{Kind: 1, Path: path(p)} }
func write(p string, off int, s string) vfs.Op {
	return vfs.Op{Kind: 2, Path: path(p), Off: off, Data: []byte(s)}
}
func read(p string, off, n int) vfs.Op { return vfs.Op{Kind: 3, Path: path(p), Off: off, N: n} }
func size(p string, n int) vfs.Op      { return vfs.Op{Kind: 4, Path: path(p), N: n} }
func rm(p string) vfs.Op               { return vfs.Op{Kind: 5, Path: path(p)} }
func rmdir(p string) vfs.Op            { return vfs.Op{Kind: 6, Path: path(p)} }
func mv(p, to string) vfs.Op           { return vfs.Op{Kind: 7, Path: path(p), To: path(to)} }
func ln(p, to string) vfs.Op           { return vfs.Op{Kind: 8, Path: path(p), To: path(to)} }
func ls(p string) vfs.Op               { return vfs.Op{Kind: 9, Path: path(p)} }
func stat(p string) vfs.Op             { return vfs.Op{Kind: 10, Path: path(p)} }
func aim(n int) vfs.Op                 { return vfs.Op{Kind: 11, N: n} }
func step() vfs.Op                     { return vfs.Op{Kind: 12} }

// text is so many bytes, none of them 0.
func text(n int) string {
	b := make([]byte, n)
	for k := range b {
		b[k] = byte(k%255 + 1)
	}
	return string(b)
}

func mount(t *testing.T, p *pmem.PM) *vfs.FS {
	t.Helper()
	f, e := vfs.Mount(p)
	if e != api.OK || f == nil {
		t.Fatalf("mount: %v", e)
	}
	return f
}

// loaded are a memory's words.
func loaded(t *testing.T, p *pmem.PM) []uint64 {
	t.Helper()
	words := make([]uint64, p.Len())
	for i := range words {
		w, e := p.Load(i)
		if e != api.OK {
			t.Fatalf("load of %d: %v", i, e)
		}
		words[i] = w
	}
	return words
}

// wantWords asks for all words of a memory, and tells of the first one that is another.
func wantWords(t *testing.T, what string, p *pmem.PM, want []uint64) {
	t.Helper()
	for at, w := range loaded(t, p) {
		if w != want[at] {
			t.Errorf("%s: the word %d is %x, want %x", what, at, w, want[at])
			return
		}
	}
}

// alike holds results against each other; a list of nothing may be nil or not.
func alike(a, b vfs.Result) bool {
	return a.E == b.E && a.N == b.N && a.Kind == b.Kind && a.Links == b.Links && a.Ino == b.Ino &&
		slices.Equal(a.Data, b.Data) && slices.Equal(a.Entries, b.Entries)
}

// rig is a file system on its memory, and a plain model that does the same.
type rig struct {
	t *testing.T
	p *pmem.PM
	f *vfs.FS
	w world

	words []uint64 // that were found sound last, with a tree
	tree  world
}

// newRig has just the root.
func newRig(t *testing.T, format int) *rig {
	t.Helper()
	p := pmem.New(api.Words)
	if e := vfs.Format(p, format); e != api.OK {
		t.Fatalf("format: %v", e)
	}
	r := &rig{t: t, p: p, f: mount(t, p), w: newWorld(format)}
	r.wantState("formatted")
	return r
}

// on is a rig on a memory of such words.
func on(t *testing.T, words []uint64) *rig {
	t.Helper()
	p := pmem.Of(words)
	f := mount(t, p)
	return &rig{t: t, p: p, f: f, w: seen(f.Sheet())}
}

// copied is another rig that is the same.
func (r *rig) copied() *rig {
	r.t.Helper()
	return on(r.t, loaded(r.t, r.p))
}

// do does an op, and asks for all that it should tell and do, as far as the document says it.
func (r *rig) do(o vfs.Op) vfs.Result {
	r.t.Helper()
	s, deeds := r.f.Sheet(), r.p.Deeds()
	want, next := r.w.do(o)
	if want.E == api.OK && lacks(s, o, r.w, next) {
		want, next = vfs.Result{E: api.ErrSpace}, r.w
	}
	got := r.guarded(o)
	if !alike(got, want) {
		r.t.Fatalf("%v: %v, want %v", o, got, want)
	}
	r.w = next
	if want.E != api.OK || o.Kind == 3 || o.Kind == 9 || o.Kind == 10 {
		wantWords(r.t, "an op that alters nothing", r.p, s.Words())
		if r.p.Deeds() != deeds {
			r.t.Errorf("%v: %d deeds", o, r.p.Deeds()-deeds)
		}
	}
	r.wantFormats(o, s)
	r.wantState("behind an op")
	if r.t.Failed() {
		r.t.Fatalf("the op was %v", o)
	}
	return want
}

// guarded does an op with lists that have spare room, asks whether they stay, and spoils all that was handed in or answered.
func (r *rig) guarded(o vfs.Op) vfs.Result {
	r.t.Helper()
	was := o
	o.Path, o.To = slices.Concat(o.Path, []string{"spare"}), slices.Concat(o.To, []string{"spare", "more"})
	o.Data = append(slices.Clone(o.Data), "spare"...)
	handed := o
	handed.Path, handed.To, handed.Data = o.Path[:len(was.Path)], o.To[:len(was.To)], o.Data[:len(was.Data)]
	got := r.f.Do(handed)
	if !slices.Equal(o.Path, slices.Concat(was.Path, []string{"spare"})) ||
		!slices.Equal(o.To, slices.Concat(was.To, []string{"spare", "more"})) ||
		string(o.Data) != string(was.Data)+"spare" {
		r.t.Errorf("%v: what was handed in is otherwise: %v", was, o)
	}
	told := got
	told.Data, told.Entries = slices.Clone(got.Data), slices.Clone(got.Entries)
	clear(o.Path)
	clear(o.To)
	clear(o.Data)
	clear(got.Data[:cap(got.Data)])
	clear(got.Entries[:cap(got.Entries)])
	return told
}

// is does an op, and asks for its error.
func (r *rig) is(o vfs.Op, e api.Errno) {
	r.t.Helper()
	if got := r.do(o); got.E != e {
		r.t.Fatalf("%v: %v, want %v", o, got.E, e)
	}
}

// are does ops that are all OK.
func (r *rig) are(l ...vfs.Op) {
	r.t.Helper()
	for _, o := range l {
		r.is(o, api.OK)
	}
}

// tells does an op, and asks for all that it tells.
func (r *rig) tells(o vfs.Op, want vfs.Result) {
	r.t.Helper()
	if got := r.do(o); !alike(got, want) {
		r.t.Fatalf("%v: %v, want %v", o, got, want)
	}
}

// wantState asks that all is sound, and lasts, and that the tree is the model's.
func (r *rig) wantState(what string) {
	r.t.Helper()
	s := r.f.Sheet()
	if words := s.Words(); !slices.Equal(words, r.words) {
		if point, ok := check.Sound(s); !ok {
			r.t.Errorf("%s: the point %d isn't so", what, point)
		}
		r.words, r.tree = words, seen(s)
	}
	if n := r.p.Dirty(); n != 0 {
		r.t.Errorf("%s: %d words are dirty", what, n)
	}
	if r.tree != r.w {
		r.t.Errorf("%s: the tree is %v, want %v", what, r.tree, r.w)
	}
	if w := s.Get(8); w != 0 {
		r.t.Errorf("%s: the commit word is %x", what, w)
	}
}

// wantFormats asks that what was made is of the target's format, what a step turned too, and all others are as they were.
func (r *rig) wantFormats(o vfs.Op, was *tx.Sheet) {
	r.t.Helper()
	s := r.f.Sheet()
	for i, n := range r.w.nodes {
		want := int(was.Get(824+8*i) & 0xff)
		if want == 0 || o.Kind == 12 && uint64(i) == was.Get(2) && s.Get(2) > was.Get(2) {
			want = int(s.Get(1))
		}
		if n.kind == 0 {
			want = 0
		}
		if got := int(s.Get(824+8*i) & 0xff); got != want {
			r.t.Errorf("the inode %d has the format %d, want %d", i, got, want)
		}
	}
}

// seen is the tree that a sheet has, read without the layer that is tested.
func seen(s *tx.Sheet) world {
	w := world{target: int(s.Get(1)), cursor: int(s.Get(2))}
	for i := range w.nodes {
		n, _, _ := inode.Get(s, i)
		x := node{kind: n.Kind, links: n.Links, count: len(n.Entries)}
		copy(x.names[:], n.Entries)
		if n.Kind == api.File {
			x.data = bytesOf(s, n)
		}
		w.nodes[i] = x
	}
	return w
}

// bytesOf are a file's bytes.
func bytesOf(s *tx.Sheet, n api.Inode) string {
	b := make([]byte, n.Size)
	for at := range b {
		if block := n.Blocks[at/64]; block != 0 {
			b[at] = byte(s.Get(1080+8*block+at%64/8) >> (at % 8 * 8))
		}
	}
	return string(b)
}

// asked is the tree that ops tell, from the root on.
func asked(t *testing.T, f *vfs.FS) world {
	t.Helper()
	s := f.Sheet()
	w := world{target: int(s.Get(1)), cursor: int(s.Get(2))}
	for l := [][]string{nil}; len(l) > 0; l = l[1:] {
		r := f.Do(vfs.Op{Kind: 10, Path: l[0]})
		if r.E != api.OK {
			t.Fatalf("%v: %v", l[0], r.E)
		}
		x := node{kind: r.Kind, links: r.Links}
		if r.Kind == api.File {
			x.data = string(f.Do(vfs.Op{Kind: 3, Path: l[0], N: math.MaxInt}).Data)
		} else {
			entries := f.Do(vfs.Op{Kind: 9, Path: l[0]}).Entries
			x.count = copy(x.names[:], entries)
			for _, y := range entries {
				l = append(l, slices.Concat(l[0], []string{y.Name}))
			}
		}
		if r.N != len(x.data)+x.count {
			t.Errorf("%v: the size %d of %v", l[0], r.N, x)
		}
		w.nodes[r.Ino] = x
	}
	return w
}
