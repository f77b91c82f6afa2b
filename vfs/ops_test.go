package vfs_test

import (
	"math"
	"strconv"
	"testing"

	"imago/api"
	"imago/vfs"
)

// town is a tree with each kind of a thing:
//
//	0 the root            5 d/e/z, a directory of nothing
//	1 a, a file, also l   6 g, a directory of nothing
//	2 d, a directory      7 full, a directory of all entries there may be
//	3 d/b, a file         8 full/n, a file, and its other names
//	4 d/e, a directory    9 h, a file of a hole, and two blocks
func town(t *testing.T, format int) *rig {
	t.Helper()
	r := newRig(t, format)
	r.are(mk("a"), write("a", 0, "hello"), ln("a", "l"), mkdir("d"), mk("d/b"), mkdir("d/e"), mkdir("d/e/z"), mkdir("g"), mkdir("full"), mk("full/n"))
	for k := range 23 {
		r.are(ln("full/n", "full/n"+strconv.Itoa(k)))
	}
	r.are(mk("h"), write("h", 0, text(64)), write("h", 130, text(20)))
	return r
}

// towns are the town in both formats, in the midst of being turned to the one and the other, and behind that.
func towns(t *testing.T) map[string]*rig {
	t.Helper()
	l := map[string]*rig{}
	for _, format := range formats {
		r := town(t, format)
		l["made in "+strconv.Itoa(format)] = r.copied()
		r.are(aim(3 - format))
		for k := range 32 {
			r.are(step())
			if k == 3 {
				l["in part turned from "+strconv.Itoa(format)] = r.copied()
			}
		}
		l["turned from "+strconv.Itoa(format)] = r
	}
	return l
}

// told is an op, and the error that it should tell.
type told struct {
	o vfs.Op
	e api.Errno
}

// asks does each op on a town of its own.
func asks(t *testing.T, l []told) {
	t.Helper()
	for what, r := range towns(t) {
		for _, x := range l {
			c := r.copied()
			if c.is(x.o, x.e); x.e == api.OK {
				continue
			}
			if c.w != r.w {
				t.Errorf("%s: %v has altered the tree", what, x.o)
			}
		}
	}
}

// badNames are names that are none.
var badNames = []string{"", ".", "..", "eightbyt", "a b", "é", "\x00", "\x7f", "\n", "a/b"}

// P12.2: a path in which one name isn't one is ErrArg, wherever that is, ahead of all that is asked on the way.
func TestBadNames(t *testing.T) {
	r := town(t, api.Old)
	for _, name := range badNames {
		for _, l := range [][]string{{name}, {"d", name}, {name, "b"}, {"nil", name}, {"a", "x", name}} {
			for kind := range 11 {
				if kind != 7 && kind != 8 {
					r.is(vfs.Op{Kind: kind, Path: l, Off: -1, N: -1}, api.ErrArg)
				}
			}
			for kind := 7; kind < 9; kind++ {
				r.is(vfs.Op{Kind: kind, Path: l, To: path("x")}, api.ErrArg)
				r.is(vfs.Op{Kind: kind, Path: l, To: l}, api.ErrArg)
				r.is(vfs.Op{Kind: kind, Path: path("a"), To: l}, api.ErrArg)
				r.is(vfs.Op{Kind: kind, Path: path("nil"), To: l}, api.ErrNoEnt)
			}
		}
	}
}

// P12.2: a kind that is none is ErrArg, whatever else the op has.
func TestNoKind(t *testing.T) {
	r := town(t, api.New)
	for _, kind := range []int{math.MinInt, -1 << 32, -256, -13, -1, 13, 14, 255, 256, 268, 1 << 32, 1<<32 + 12, math.MaxInt} {
		r.is(vfs.Op{Kind: kind}, api.ErrArg)
		r.is(vfs.Op{Kind: kind, Path: path("a"), To: path("x"), N: 1, Data: []byte("x")}, api.ErrArg)
		r.is(vfs.Op{Kind: kind, Path: path("nil/a")}, api.ErrArg)
	}
}

// P12.2: making files and directories.
func TestMakeErrors(t *testing.T) {
	var l []told
	for _, kind := range []int{0, 1} {
		for p, e := range map[string]api.Errno{
			"": api.ErrExist, "x": api.OK, "d/x": api.OK, "d/e/z/x": api.OK, "sevenby": api.OK, "!": api.OK, "...": api.OK, "a": api.ErrExist, "d": api.ErrExist,
			"d/b": api.ErrExist, "full/n": api.ErrExist, "full/x": api.ErrSpace, "nil/x": api.ErrNoEnt, "d/nil/x": api.ErrNoEnt,
			"a/x": api.ErrNotDir, "l/x": api.ErrNotDir, "d/b/x/y": api.ErrNotDir, "nil/x/y": api.ErrNoEnt,
		} {
			l = append(l, told{vfs.Op{Kind: kind, Path: path(p), Off: -1, N: -1, To: path("a"), Data: []byte("x")}, e})
		}
	}
	asks(t, l)
}

// P12.2: what is made is the first inode that is free, of the target's format, with one link, and nothing in it.
func TestMake(t *testing.T) {
	for _, format := range formats {
		r := newRig(t, format)
		r.tells(mk("a"), vfs.Result{N: 1})
		r.tells(mkdir("d"), vfs.Result{N: 2})
		r.tells(mk("d/b"), vfs.Result{N: 3})
		r.tells(stat("a"), vfs.Result{Kind: api.File, Links: 1, Ino: 1})
		r.tells(stat("d"), vfs.Result{Kind: api.Dir, Links: 1, Ino: 2, N: 1})
		r.tells(read("a", 0, 100), vfs.Result{})
		r.are(aim(3-format), rm("a"))
		r.tells(mk("d/c"), vfs.Result{N: 1})
		r.tells(mkdir("d/d"), vfs.Result{N: 4})
		r.tells(ls("d/d"), vfs.Result{})
		r.tells(ls("d"), vfs.Result{Entries: []api.Entry{{Name: "b", Ino: 3}, {Name: "c", Ino: 1}, {Name: "d", Ino: 4}}})
		for i, want := range []int{format, 3 - format, format, format, 3 - format} {
			if got := int(r.f.Sheet().Get(824+8*i) & 0xff); got != want {
				t.Errorf("the inode %d has the format %d, want %d", i, got, want)
			}
		}
	}
}

// P12.2: where no inode is free, nothing is made; one that is free again is made anew.
func TestNoInode(t *testing.T) {
	for _, format := range formats {
		r := newRig(t, format)
		r.are(mkdir("d"), mkdir("e"))
		for k := range 29 {
			p := []string{"d/x", "e/y"}[k/20] + strconv.Itoa(k)
			r.tells(vfs.Op{Kind: k % 2, Path: path(p)}, vfs.Result{N: 3 + k})
		}
		for _, o := range []vfs.Op{mk("x"), mkdir("x"), mk("d/z"), mkdir("d/z")} {
			r.is(o, api.ErrSpace)
		}
		for p, e := range map[string]api.Errno{"": 3, "d/x0": 3, "nil/x": 2, "d/x0/x": 4, "..": 1} {
			r.is(mk(p), e)
			r.is(mkdir(p), e)
		}
		r.are(ln("d/x0", "other"), rm("d/x0"))
		r.is(mk("x"), api.ErrSpace)
		r.are(rm("other"), rmdir("d/x7"))
		r.tells(mk("x"), vfs.Result{N: 3})
		r.tells(mkdir("y"), vfs.Result{N: 10})
		r.is(mk("z"), api.ErrSpace)
	}
}

// P12.2: taking names of files away.
func TestRemoveErrors(t *testing.T) {
	asks(t, []told{
		{rm(""), api.ErrIsDir}, {rm("a"), api.OK}, {rm("l"), api.OK}, {rm("d/b"), api.OK}, {rm("h"), api.OK}, {rm("full/n7"), api.OK},
		{rm("nil"), api.ErrNoEnt}, {rm("d/nil"), api.ErrNoEnt}, {rm("nil/a"), api.ErrNoEnt}, {rm("a/x"), api.ErrNotDir}, {rm("a/x/y"), api.ErrNotDir},
		{rm("d"), api.ErrIsDir}, {rm("g"), api.ErrIsDir}, {rm("d/e/z"), api.ErrIsDir},
	})
}

// P12.2: taking directories away.
func TestRemoveDirErrors(t *testing.T) {
	asks(t, []told{
		{rmdir(""), api.ErrArg}, {rmdir("g"), api.OK}, {rmdir("d/e/z"), api.OK}, {rmdir("nil"), api.ErrNoEnt}, {rmdir("d/nil"), api.ErrNoEnt},
		{rmdir("nil/a"), api.ErrNoEnt}, {rmdir("a/x"), api.ErrNotDir}, {rmdir("a"), api.ErrNotDir}, {rmdir("d/b"), api.ErrNotDir}, {rmdir("l"), api.ErrNotDir},
		{rmdir("d"), api.ErrEmpty}, {rmdir("d/e"), api.ErrEmpty}, {rmdir("full"), api.ErrEmpty},
	})
}

// P12.2: the last name of a file taken away, its inode and its blocks are free again; one of two, they stay.
func TestLastName(t *testing.T) {
	for _, format := range formats {
		for _, turned := range []bool{false, true} {
			r := newRig(t, format)
			r.are(mk("z"), mkdir("e"))
			free := r.free()
			r.are(mk("a"), write("a", 0, text(832)), ln("a", "e/b"))
			if turned {
				r.are(aim(3-format), step(), step(), step(), step())
			}
			r.tells(stat("e/b"), vfs.Result{N: 832, Kind: api.File, Links: 2, Ino: 3})
			r.are(rm("a"))
			r.tells(stat("e/b"), vfs.Result{N: 832, Kind: api.File, Links: 1, Ino: 3})
			r.tells(read("e/b", 0, 832), vfs.Result{Data: []byte(text(832))})
			r.is(stat("a"), api.ErrNoEnt)
			r.are(rm("e/b"))
			if !turned && r.free() != free || r.f.Sheet().Get(824+24) != 0 {
				t.Errorf("%d blocks are free, want %d", r.free(), free)
			}
			r.are(rmdir("e"), rm("z"))
			if r.free() != 255 {
				t.Errorf("%d blocks are free", r.free())
			}
		}
	}
}

// P12.2: further names for files.
func TestLinkErrors(t *testing.T) {
	asks(t, []told{
		{ln("a", "x"), api.OK}, {ln("l", "x"), api.OK}, {ln("d/b", "g/b"), api.OK}, {ln("full/n", "n"), api.OK},
		{ln("", "x"), api.ErrIsDir}, {ln("", ""), api.ErrIsDir}, {ln("d", "x"), api.ErrIsDir}, {ln("d", ""), api.ErrIsDir}, {ln("d", "nil/x"), api.ErrIsDir}, {ln("g", "a"), api.ErrIsDir},
		{ln("nil", ""), api.ErrNoEnt}, {ln("nil", "a"), api.ErrNoEnt}, {ln("a/x", "a"), api.ErrNotDir}, {ln("a/x", ""), api.ErrNotDir},
		{ln("a", ""), api.ErrExist}, {ln("a", "a"), api.ErrExist}, {ln("a", "l"), api.ErrExist}, {ln("a", "d"), api.ErrExist}, {ln("a", "full/n3"), api.ErrExist},
		{ln("a", "nil/x"), api.ErrNoEnt}, {ln("a", "a/x"), api.ErrNotDir}, {ln("a", "d/b/x"), api.ErrNotDir},
		{ln("a", "full/x"), api.ErrSpace}, {ln("full/n", "full/x"), api.ErrSpace},
	})
}

// P12.2: lists, and what is told of an inode.
func TestLook(t *testing.T) {
	for _, r := range towns(t) {
		r.tells(ls("d"), vfs.Result{Entries: []api.Entry{{Name: "b", Ino: 3}, {Name: "e", Ino: 4}}})
		r.tells(ls("d/e/z"), vfs.Result{})
		r.tells(ls(""), vfs.Result{Entries: []api.Entry{
			{Name: "a", Ino: 1}, {Name: "d", Ino: 2}, {Name: "full", Ino: 7}, {Name: "g", Ino: 6}, {Name: "h", Ino: 9}, {Name: "l", Ino: 1},
		}})
		if got := r.do(ls("full")); len(got.Entries) != 24 || got.Entries[2] != (api.Entry{Name: "n1", Ino: 8}) || got.Entries[3].Name != "n10" {
			t.Errorf("full: %v", got)
		}
		r.tells(stat(""), vfs.Result{N: 6, Kind: api.Dir, Links: 1})
		r.tells(stat("l"), vfs.Result{N: 5, Kind: api.File, Links: 2, Ino: 1})
		r.tells(stat("full"), vfs.Result{N: 24, Kind: api.Dir, Links: 1, Ino: 7})
		r.tells(stat("full/n22"), vfs.Result{Kind: api.File, Links: 24, Ino: 8})
		r.tells(stat("h"), vfs.Result{N: 150, Kind: api.File, Links: 1, Ino: 9})
	}
	asks(t, []told{
		{ls("a"), api.ErrNotDir}, {ls("l"), api.ErrNotDir}, {ls("nil"), api.ErrNoEnt}, {ls("a/x"), api.ErrNotDir}, {ls("nil/x"), api.ErrNoEnt},
		{stat("nil"), api.ErrNoEnt}, {stat("a/x"), api.ErrNotDir}, {stat("nil/x"), api.ErrNoEnt}, {stat("full/x"), api.ErrNoEnt},
	})
}

// P12.2: aims, and steps.
func TestAimAndStep(t *testing.T) {
	for _, format := range formats {
		r := town(t, format)
		for _, n := range noFormats {
			r.is(aim(n), api.ErrArg)
		}
		r.tells(step(), vfs.Result{N: 1})
		r.tells(aim(format), vfs.Result{})
		r.tells(step(), vfs.Result{N: 1})
		r.tells(aim(3-format), vfs.Result{})
		for k := range 32 {
			r.tells(step(), vfs.Result{N: (k + 1) / 32})
		}
		r.tells(step(), vfs.Result{N: 1})
		r.tells(aim(3-format), vfs.Result{})
		r.tells(step(), vfs.Result{N: 1})
		for _, got := range turns(r.f) {
			if got != 3-format {
				t.Errorf("the formats are %v", turns(r.f))
			}
		}
		r.tells(aim(format), vfs.Result{})
		r.tells(step(), vfs.Result{})
		r.is(aim(3), api.ErrArg)
		r.tells(aim(format), vfs.Result{}) // the cursor stays
		for k := range 31 {
			r.tells(step(), vfs.Result{N: (k + 2) / 32})
		}
	}
}

// P12.2: a sheet is over the words as they are; it is another one each time, and what is put on it isn't the file system's.
func TestSheet(t *testing.T) {
	r := town(t, api.Old)
	s := r.f.Sheet()
	wantWords(t, "a sheet", r.p, s.Words())
	if s.Mark() != 0 || len(s.Pairs()) != 0 {
		t.Error("a sheet with puts")
	}
	for at := range 3128 {
		s.Put(at, 77)
	}
	r.wantState("a sheet was put on")
	r.are(mk("x"))
	if got := r.f.Sheet(); got == s || got.Get(0) != 0x696d61676f303100 {
		t.Error("the same sheet")
	}
	r.p.Fuse(0)
	if got := r.f.Sheet(); got == nil {
		t.Error("no sheet without power")
	}
}
