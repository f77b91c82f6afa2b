package vfs

import (
	"imago/api"
	"imago/convert"
	"imago/inode"
	"imago/tree"
	"imago/tx"
)

// The kinds of ops.
const (
	makeFile = iota
	makeDir
	writeFile
	readFile
	sizeFile
	removeFile
	removeDir
	rename
	link
	list
	tell
	aim
	step
)

// job is an op, and the sheet on which it is done. What the kinds do are methods of it, so that their values are all of one type.
type job struct {
	s *tx.Sheet
	o Op
}

// does tells what an op of its kind does. What an error leaves on the sheet is never committed, so it isn't undone.
func (j job) does() func() Result {
	kinds := [...]func() Result{
		makeFile:   j.makeFile,
		makeDir:    j.makeDir,
		writeFile:  j.writeFile,
		readFile:   j.readFile,
		sizeFile:   j.sizeFile,
		removeFile: j.removeFile,
		removeDir:  j.removeDir,
		rename:     j.rename,
		link:       j.link,
		list:       j.list,
		tell:       j.tell,
		aim:        j.aim,
		step:       j.step,
	}
	if j.o.Kind < 0 || j.o.Kind >= len(kinds) {
		return j.refuse
	}
	return kinds[j.o.Kind]
}

// refuse is what an op of no kind does.
func (j job) refuse() Result {
	return Result{E: api.ErrArg}
}

func (j job) makeFile() Result {
	return j.create(api.File)
}

func (j job) makeDir() Result {
	return j.create(api.Dir)
}

func (j job) create(kind int) Result {
	at, e := j.vacant(j.o.Path)
	if e != api.OK {
		return Result{E: e}
	}
	i, e := inode.New(j.s, api.Inode{Format: convert.Target(j.s), Kind: kind, Links: 1})
	if e != api.OK {
		return Result{E: e}
	}
	return Result{N: i, E: j.enter(at, i)}
}

func (j job) removeFile() Result {
	if len(j.o.Path) == 0 {
		return Result{E: api.ErrIsDir}
	}
	at, n, e := j.named(j.o.Path)
	switch {
	case e != api.OK:
		return Result{E: e}
	case n.Kind == api.Dir:
		return Result{E: api.ErrIsDir}
	}
	return Result{E: j.remove(at)}
}

func (j job) removeDir() Result {
	at, n, e := j.named(j.o.Path)
	switch {
	case e != api.OK:
		return Result{E: e}
	case n.Kind != api.Dir:
		return Result{E: api.ErrNotDir}
	case n.Size > 0:
		return Result{E: api.ErrEmpty}
	}
	return Result{E: j.remove(at)}
}

// remove takes an entry away, and the link that its inode has by it.
func (j job) remove(at spot) api.Errno {
	if e := j.leave(at); e != api.OK {
		return e
	}
	return j.unlink(at.ino)
}

func (j job) rename() Result {
	if len(j.o.To) == 0 {
		return Result{E: api.ErrArg}
	}
	from, n, e := j.named(j.o.Path)
	if e != api.OK {
		return Result{E: e}
	}
	to, e := j.spotOf(j.o.To)
	if e != api.OK || to.there && to.ino == from.ino {
		return Result{E: e}
	}
	if tree.Below(j.s, from.ino, to.dir) {
		return Result{E: api.ErrLoop}
	}
	if e := j.yields(to, n.Kind); e != api.OK {
		return Result{E: e}
	}
	return Result{E: j.move(from, to)}
}

// yields asks whether what is there may be replaced by an inode of a kind; where nothing is, it may.
func (j job) yields(to spot, kind int) api.Errno {
	if !to.there {
		return api.OK
	}
	n, _, e := inode.Get(j.s, to.ino)
	switch {
	case e != api.OK:
		return e
	case kind == api.Dir && n.Kind != api.Dir:
		return api.ErrNotDir
	case kind == api.Dir && n.Size > 0:
		return api.ErrEmpty
	case kind != api.Dir && n.Kind == api.Dir:
		return api.ErrIsDir
	}
	return api.OK
}

// move takes an entry to another place. It leaves first, so that the room that it had is there for it: it may be the same directory.
func (j job) move(from, to spot) api.Errno {
	if e := j.leave(from); e != api.OK {
		return e
	}
	if e := j.enter(to, from.ino); e != api.OK || !to.there {
		return e
	}
	return j.unlink(to.ino)
}

func (j job) link() Result {
	i, n, e := j.file()
	if e != api.OK {
		return Result{E: e}
	}
	at, e := j.vacant(j.o.To)
	if e != api.OK {
		return Result{E: e}
	}
	n.Links++
	if e := inode.Put(j.s, i, n); e != api.OK {
		return Result{E: e}
	}
	return Result{E: j.enter(at, i)}
}

func (j job) list() Result {
	_, n, e := j.walked()
	switch {
	case e != api.OK:
		return Result{E: e}
	case n.Kind != api.Dir:
		return Result{E: api.ErrNotDir}
	}
	return Result{Entries: n.Entries}
}

func (j job) tell() Result {
	i, n, e := j.walked()
	if e != api.OK {
		return Result{E: e}
	}
	return Result{N: n.Size, Kind: n.Kind, Links: n.Links, Ino: i}
}

func (j job) aim() Result {
	return Result{E: convert.Aim(j.s, j.o.N)}
}

func (j job) step() Result {
	if e := convert.Step(j.s); e != api.OK {
		return Result{E: e}
	}
	if convert.Done(j.s) {
		return Result{N: 1}
	}
	return Result{}
}
