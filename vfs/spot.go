package vfs

import (
	"imago/api"
	"imago/inode"
	"imago/tree"
)

// spot is where a path's last name stands in its directory, or would stand.
type spot struct {
	dir   int
	name  string
	there bool
	ino   int // whose name it is, if it is there
}

// spotOf is the spot of a path that isn't the root.
func (j job) spotOf(path []string) (spot, api.Errno) {
	dir, name, e := tree.Parent(j.s, path)
	if e != api.OK {
		return spot{}, e
	}
	n, _, e := inode.Get(j.s, dir)
	if e != api.OK {
		return spot{}, e
	}
	ino, there := tree.Find(n, name)
	return spot{dir: dir, name: name, there: there, ino: ino}, api.OK
}

// vacant is the spot of a name that is to be given; the root has its own already.
func (j job) vacant(path []string) (spot, api.Errno) {
	if len(path) == 0 {
		return spot{}, api.ErrExist
	}
	at, e := j.spotOf(path)
	switch {
	case e != api.OK:
		return spot{}, e
	case at.there:
		return spot{}, api.ErrExist
	}
	return at, api.OK
}

// named is the spot of a name that must be there, and the inode whose name it is.
func (j job) named(path []string) (spot, api.Inode, api.Errno) {
	at, e := j.spotOf(path)
	switch {
	case e != api.OK:
		return spot{}, api.Inode{}, e
	case !at.there:
		return spot{}, api.Inode{}, api.ErrNoEnt
	}
	n, _, e := inode.Get(j.s, at.ino)
	return at, n, e
}

// walked is the inode to which the op's path leads.
func (j job) walked() (int, api.Inode, api.Errno) {
	i, e := tree.Walk(j.s, j.o.Path)
	if e != api.OK {
		return 0, api.Inode{}, e
	}
	n, _, e := inode.Get(j.s, i)
	return i, n, e
}

// file is the file to which the op's path leads.
func (j job) file() (int, api.Inode, api.Errno) {
	i, n, e := j.walked()
	if e == api.OK && n.Kind == api.Dir {
		return 0, api.Inode{}, api.ErrIsDir
	}
	return i, n, e
}

// enter gives an inode the name of a spot, also instead of the one whose name it is. The directory is got anew: it may have been altered since the spot was asked for.
func (j job) enter(at spot, ino int) api.Errno {
	n, _, e := inode.Get(j.s, at.dir)
	if e != api.OK {
		return e
	}
	n = tree.With(n, api.Entry{Name: at.name, Ino: ino})
	if n.Size > api.MaxEntries {
		return api.ErrSpace
	}
	return inode.Put(j.s, at.dir, n)
}

// leave takes the name of a spot away.
func (j job) leave(at spot) api.Errno {
	n, _, e := inode.Get(j.s, at.dir)
	if e != api.OK {
		return e
	}
	return inode.Put(j.s, at.dir, tree.Without(n, at.name))
}

// unlink takes a link from an inode, and drops it behind the last one.
func (j job) unlink(i int) api.Errno {
	n, _, e := inode.Get(j.s, i)
	if e != api.OK {
		return e
	}
	n.Links--
	if n.Links < 1 {
		return inode.Drop(j.s, i)
	}
	return inode.Put(j.s, i, n)
}
