package vfs_test

import (
	"strconv"
	"testing"

	"imago/api"
	"imago/vfs"
)

// P12.2: the errors of a rename in their order, two that apply at once too, and what is told of names over others.
func TestRenameErrors(t *testing.T) {
	asks(t, []told{
		{mv("", ""), api.ErrArg}, {mv("", "x"), api.ErrArg}, {mv("a", ""), api.ErrArg}, {mv("nil", ""), api.ErrArg}, {mv("nil/x", ""), api.ErrArg}, {mv("a/x", ""), api.ErrArg}, {mv("", "nil/x"), api.ErrArg},
		{mv("nil", "x"), api.ErrNoEnt}, {mv("nil", "a/x"), api.ErrNoEnt}, {mv("nil", "a b"), api.ErrNoEnt}, {mv("nil/x", "x"), api.ErrNoEnt}, {mv("a/x", "nil/x"), api.ErrNotDir},
		{mv("a", "nil/x"), api.ErrNoEnt}, {mv("a", "a/x"), api.ErrNotDir}, {mv("a", "d/b/x"), api.ErrNotDir}, {mv("d", "d/b/x"), api.ErrNotDir}, {mv("d", "d/nil/x"), api.ErrNoEnt}, {mv("a", ".."), api.ErrArg},
		{mv("d", "d/x"), api.ErrLoop}, {mv("d", "d/e/x"), api.ErrLoop}, {mv("d", "d/e/z/x"), api.ErrLoop}, {mv("g", "g/g"), api.ErrLoop},
		{mv("d", "d/b"), api.ErrLoop}, {mv("d", "d/e"), api.ErrLoop}, {mv("d", "d/e/z"), api.ErrLoop}, {mv("full", "full/x"), api.ErrLoop}, {mv("full", "full/n"), api.ErrLoop},
		{mv("d", "a"), api.ErrNotDir}, {mv("g", "d/b"), api.ErrNotDir}, {mv("d", "full/n"), api.ErrNotDir}, {mv("d", "full"), api.ErrEmpty}, {mv("g", "d"), api.ErrEmpty}, {mv("d/e", "d"), api.ErrEmpty}, {mv("d/e/z", "d/e"), api.ErrEmpty},
		{mv("a", "d"), api.ErrIsDir}, {mv("a", "g"), api.ErrIsDir}, {mv("d/b", "d"), api.ErrIsDir}, {mv("full/n", "full"), api.ErrIsDir}, {mv("h", "d/e/z"), api.ErrIsDir},
		{mv("a", "full/x"), api.ErrSpace}, {mv("d", "full/x"), api.ErrSpace}, {mv("g", "full/x"), api.ErrSpace},
	})
}

// P12.2: what is named otherwise is the same inode, with all that it has.
func TestRename(t *testing.T) {
	for _, r := range towns(t) {
		for _, x := range [][3]string{
			{"a", "x", "x"}, {"a", "d/x", "d/x"}, {"d", "x", "x/e/z"}, {"d", "g/x", "g/x/e/z"}, {"d/e", "e", "e/z"}, {"full", "d/e/z/full", "d/e/z/full/n3"}, {"h", "d/b", "d/b"}, {"a", "h", "h"},
			{"a", "full/n3", "full/n3"}, {"full/n3", "full/x", "full/x"}, {"full/n", "full/zzz", "full/zzz"}, {"full/n22", "full/a", "full/a"}, {"full/n", "n", "n"}, {"d", "g", "g/e/z"}, {"d/e/z", "g", "g"}, {"h", "d/e/z/h", "d/e/z/h"},
		} {
			c := r.copied()
			was := c.do(stat(x[0]))
			c.tells(mv(x[0], x[1]), vfs.Result{})
			c.tells(stat(x[1]), was)
			c.is(stat(x[0]), api.ErrNoEnt)
			c.is(stat(x[2]), api.OK)
			if got := asked(t, c.f); got != c.w {
				t.Errorf("%v: the ops tell %v, want %v", x, got, c.w)
			}
		}
	}
}

// P12.2: over itself, or over another name of the same file, nothing more is done.
func TestRenameSame(t *testing.T) {
	for _, r := range towns(t) {
		was, deeds := r.w, r.p.Deeds()
		r.are(mv("a", "a"), mv("a", "l"), mv("l", "a"), mv("d", "d"), mv("d/e", "d/e"), mv("d/e/z", "d/e/z"), mv("full", "full"), mv("full/n", "full/n"), mv("full/n", "full/n3"), mv("full/n3", "full/n"))
		if r.w != was || r.p.Deeds() != deeds {
			t.Errorf("%d deeds", r.p.Deeds()-deeds)
		}
		r.tells(stat("l"), vfs.Result{N: 5, Kind: api.File, Links: 2, Ino: 1})
	}
}

// P12.2: what loses its last name by that is dropped, what has another one stays.
func TestRenameOver(t *testing.T) {
	for _, format := range formats {
		r := newRig(t, format)
		r.are(mk("a"), mkdir("d"), mk("b"), mkdir("e"), mk("d/c"), write("b", 0, text(500)), write("d/c", 0, "c"), ln("b", "d/b"))
		r.are(mv("a", "b")) // the file has its other name
		r.tells(stat("d/b"), vfs.Result{N: 500, Kind: api.File, Links: 1, Ino: 3})
		r.tells(stat("b"), vfs.Result{Kind: api.File, Links: 1, Ino: 1})
		free := r.free()
		r.are(mv("d/c", "d/b"))
		if r.free() < free+8 {
			t.Errorf("%d blocks are free, %d were", r.free(), free)
		}
		r.tells(read("d/b", 0, 5), vfs.Result{Data: []byte("c")})
		r.tells(ls("d"), vfs.Result{Entries: []api.Entry{{Name: "b", Ino: 5}}})
		r.tells(mk("x"), vfs.Result{N: 3})
		r.are(mv("d", "e"))
		r.tells(stat("e/b"), vfs.Result{N: 1, Kind: api.File, Links: 1, Ino: 5})
		r.tells(mkdir("y"), vfs.Result{N: 4})
		r.are(rm("e/b"), rmdir("e"), rm("b"), rm("x"), rmdir("y"))
		if r.free() != 255 {
			t.Errorf("%d blocks are free", r.free())
		}
	}
}

// P12.2: a full directory takes a name from itself, and over one that it has, but no other.
func TestRenameFull(t *testing.T) {
	for _, r := range towns(t) {
		r.are(mv("full/n", "full/a"), mv("full/n22", "full/zz"), mv("full/n11", "full/n"))
		r.are(mv("a", "full/zz"))
		r.is(mv("l", "full/y"), api.ErrSpace)
		r.are(mv("full/zz", "a"))
		r.are(mv("l", "full/y"), mv("full/y", "full/y2"))
		r.is(mv("a", "full/y"), api.ErrSpace)
		r.is(mv("g", "full/y"), api.ErrSpace)
		r.tells(stat("full"), vfs.Result{N: 24, Kind: api.Dir, Links: 1, Ino: 7})
	}
}

// P12.2: a directory goes down and up long ways.
func TestRenameDeep(t *testing.T) {
	for _, format := range formats {
		r := newRig(t, format)
		p := ""
		for k := range 20 {
			p += "n" + strconv.Itoa(k)
			r.are(mkdir(p))
			p += "/"
		}
		r.is(mv("n0", p+"x"), api.ErrLoop)
		r.are(mk(p+"f"), write(p+"f", 0, "deep"), mkdir("x"))
		r.are(mv("n0/n1/n2/n3", "x/y"), aim(3-format), step(), step(), mv("n0", "x/y/n4/n0"))
		r.is(mv("x/y", "x/y/n4/n0/n1/n2/q"), api.ErrLoop)
		r.are(mv("x/y/n4/n0/n1", "q"), mv("x", "q/n2/x"))
		r.tells(ls(""), vfs.Result{Entries: []api.Entry{{Name: "q", Ino: 2}}})
		if got := asked(t, r.f); got != r.w {
			t.Errorf("the ops tell %v, want %v", got, r.w)
		}
	}
}
