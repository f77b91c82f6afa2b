package script_test

import (
	"slices"
	"strings"
	"testing"

	"imago/api"
	"imago/check"
	"imago/inode"
	"imago/pmem"
	"imago/script"
	"imago/vfs"
)

var formats = []int{api.Old, api.New}

// path parts the names of a path; "" is the root.
func path(names string) []string {
	if names == "" {
		return nil
	}
	return strings.Split(names, "/")
}

func mk(p string) vfs.Op    { return vfs.Op{Kind: 0, Path: path(p)} }
func mkdir(p string) vfs.Op { return vfs.Op{Kind: 1, Path: path(p)} }
func write(p string, off int, s string) vfs.Op {
	return vfs.Op{Kind: 2, Path: path(p), Off: off, Data: []byte(s)}
}
func read(p string, off, n int) vfs.Op { return vfs.Op{Kind: 3, Path: path(p), Off: off, N: n} }
func size(p string, n int) vfs.Op      { return vfs.Op{Kind: 4, Path: path(p), N: n} }
func rm(p string) vfs.Op               { return vfs.Op{Kind: 5, Path: path(p)} }
func rmdir(p string) vfs.Op            { return vfs.Op{Kind: 6, Path: path(p)} }
func mv(p, to string) vfs.Op           { return vfs.Op{Kind: 7, Path: path(p), To: path(to)} }
func ln(p, to string) vfs.Op           { return vfs.Op{Kind: 8, Path: path(p), To: path(to)} }
func ls(p string) vfs.Op               { return vfs.Op{Kind: 9, Path: path(p)} }
func stat(p string) vfs.Op             { return vfs.Op{Kind: 10, Path: path(p)} }
func aim(n int) vfs.Op                 { return vfs.Op{Kind: 11, N: n} }
func step() vfs.Op                     { return vfs.Op{Kind: 12} }
func kindOf(n int) vfs.Op              { return vfs.Op{Kind: n} }

// plain are steps that are just their ops.
func plain(ops ...vfs.Op) []script.Step {
	l := make([]script.Step, len(ops))
	for k, o := range ops {
		l[k].O = o
	}
	return l
}

// fused is a step with a fuse, and what a crash would keep.
func fused(o vfs.Op, n int, keep ...uint8) script.Step {
	return script.Step{O: o, Fuse: true, N: n, Keep: keep}
}

// crashed is a step with a crash.
func crashed(o vfs.Op, keep ...uint8) script.Step {
	return script.Step{O: o, Crash: true, Keep: keep}
}

// text is so many bytes, none of them 0.
func text(n int) string {
	b := make([]byte, n)
	for k := range b {
		b[k] = byte(k%255 + 1)
	}
	return string(b)
}

// manyNames are names of two letters: na, nb, and so on.
func manyNames(n int) []string {
	l := make([]string, n)
	for k := range l {
		l[k] = "n" + string(rune('a'+k))
	}
	return l
}

// writes are steps that write each block of many files of a directory.
func writes(dir string, names []string) []script.Step {
	var l []script.Step
	for _, name := range names {
		for block := range api.MaxBlocks {
			l = append(l, plain(write(dir+"/"+name, 64*block, "x"))...)
		}
	}
	return l
}

// formatted is a memory with just the root.
func formatted(t *testing.T, format int) *pmem.PM {
	t.Helper()
	p := pmem.New(api.Words)
	if e := vfs.Format(p, format); e != api.OK {
		t.Fatalf("format: %v", e)
	}
	return p
}

// town are the words of a file system with something of each kind, of both formats, half turned to the one that is told.
func town(t *testing.T, format int) []uint64 {
	t.Helper()
	p := formatted(t, 3-format)
	l := plain(mk("a"), mkdir("d"), mk("h"), mkdir("full"), mkdir("g"), mk("d/b"), mkdir("d/e"), mkdir("d/e/z"),
		write("a", 0, "hello"), write("h", 100, text(300)), write("d/b", 60, text(700)), ln("a", "d/c"))
	for _, name := range manyNames(24) {
		l = append(l, plain(ln("d/b", "full/"+name))...)
	}
	l = append(l, plain(aim(format), step(), step(), step(), step(), step())...)
	f, results := ran(t, p, l)
	for k, r := range results {
		if r.E != api.OK {
			t.Fatalf("%v: %v", l[k].O, r.E)
		}
	}
	return f.Sheet().Words()
}

// ran runs a script that should come to its end, and asks for what holds behind each one.
func ran(t *testing.T, p *pmem.PM, l []script.Step) (*vfs.FS, []vfs.Result) {
	t.Helper()
	f, results, e := script.Run(p, l)
	if e != api.OK || f == nil || len(results) != len(l) {
		t.Fatalf("run: %v, %d results of %d", e, len(results), len(l))
	}
	wantSound(t, p, f)
	return f, results
}

// wantSound asks that all is sound, that all lasts, and that no commit stands.
func wantSound(t *testing.T, p *pmem.PM, f *vfs.FS) {
	t.Helper()
	s := f.Sheet()
	if point, ok := check.Sound(s); !ok {
		t.Errorf("the point %d isn't so", point)
	}
	if n := p.Dirty(); n != 0 {
		t.Errorf("%d words are dirty", n)
	}
	if w := s.Get(api.LogAt); w != 0 {
		t.Errorf("the commit word is %x", w)
	}
	if !slices.Equal(s.Words(), loaded(t, p)) {
		t.Error("the sheet is another than the memory")
	}
}

// loaded are a memory's words.
func loaded(t *testing.T, p *pmem.PM) []uint64 {
	t.Helper()
	words := make([]uint64, p.Len())
	for i := range words {
		w, e := p.Load(i)
		if e != api.OK {
			t.Fatalf("load of %d: %v", i, e)
		}
		words[i] = w
	}
	return words
}

// files are words without those of the journal.
func files(words []uint64) []uint64 {
	return append(slices.Clone(words[:api.LogAt]), words[api.BitsAt:]...)
}

// alike holds results against each other; a list of nothing may be nil or not.
func alike(a, b vfs.Result) bool {
	return a.E == b.E && a.N == b.N && a.Kind == b.Kind && a.Links == b.Links && a.Ino == b.Ino &&
		slices.Equal(a.Data, b.Data) && slices.Equal(a.Entries, b.Entries)
}

// wantResults asks for all results of a script.
func wantResults(t *testing.T, got, want []vfs.Result) {
	t.Helper()
	if !slices.EqualFunc(got, want, alike) {
		t.Errorf("the results are %v, want %v", got, want)
	}
}

// wantErrors asks for the errors of all results; beside an error nothing else is told.
func wantErrors(t *testing.T, got []vfs.Result, want ...api.Errno) {
	t.Helper()
	l := make([]api.Errno, len(got))
	for k, r := range got {
		l[k] = r.E
		if r.E != api.OK && !alike(r, vfs.Result{E: r.E}) {
			t.Errorf("beside an error there is %v", r)
		}
	}
	if !slices.Equal(l, want) {
		t.Errorf("the errors are %v, want %v", l, want)
	}
}

// wantTree asks for the tree that ops tell of.
func wantTree(t *testing.T, f *vfs.FS, want *tree) {
	t.Helper()
	if got := asked(t, f); !got.same(want) {
		t.Errorf("the tree is %v, want %v", got, want)
	}
}

// formatsOf are the formats of all inodes that are there.
func formatsOf(t *testing.T, f *vfs.FS) []int {
	t.Helper()
	var l []int
	s := f.Sheet()
	for i := range api.Inodes {
		if n, _, e := inode.Get(s, i); e == api.OK {
			l = append(l, n.Format)
		}
	}
	return l
}
