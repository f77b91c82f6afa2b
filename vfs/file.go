package vfs

import (
	"slices"

	"imago/api"
	"imago/inode"
	"imago/pack"
	"imago/palloc"
	"imago/tx"
)

// maxSize is how long a file can be.
const maxSize = api.MaxBlocks * api.BlockBytes

// wordBytes is how many bytes stand in one word.
const wordBytes = api.BlockBytes / api.BlockWords

// content is what a file's blocks have, also behind its size.
type content = [maxSize]byte

func (j job) writeFile() Result {
	i, n, e := j.file()
	off, count := j.o.Off, len(j.o.Data)
	switch {
	case e != api.OK:
		return Result{E: e}
	case off < 0:
		return Result{E: api.ErrArg}
	case off > maxSize-count: // their sum could be more than an int
		return Result{E: api.ErrLong}
	case count == 0:
		return Result{}
	}
	c := j.contentOf(n)
	copy(c[off:], j.o.Data)
	if n, e = j.filled(n, off, off+count); e != api.OK {
		return Result{E: e}
	}
	n.Size = max(n.Size, off+count)
	j.putContent(n, c)
	return Result{N: count, E: inode.Put(j.s, i, n)}
}

func (j job) readFile() Result {
	_, n, e := j.file()
	switch {
	case e != api.OK:
		return Result{E: e}
	case j.o.Off < 0 || j.o.N < 0:
		return Result{E: api.ErrArg}
	}
	begin := min(j.o.Off, n.Size)
	end := begin + min(j.o.N, n.Size-begin)
	c := j.contentOf(n)
	return Result{Data: slices.Clone(c[begin:end])}
}

func (j job) sizeFile() Result {
	i, n, e := j.file()
	size := j.o.N
	switch {
	case e != api.OK:
		return Result{E: e}
	case size < 0:
		return Result{E: api.ErrArg}
	case size > maxSize:
		return Result{E: api.ErrLong}
	}
	if size < n.Size {
		n = j.cut(n, size)
	}
	n.Size = size
	return Result{E: inode.Put(j.s, i, n)}
}

// cut gives back a file's blocks behind a size, and lets no byte stay there that would come up if it grew.
func (j job) cut(n api.Inode, size int) api.Inode {
	behind := n.Blocks[blocksOf(size):]
	palloc.Give(j.s, behind)
	clear(behind)
	c := j.contentOf(n)
	clear(c[size:])
	j.putContent(n, c)
	return n
}

// filled gives a file blocks for its bytes from one on up to another, where there are holes.
func (j job) filled(n api.Inode, from, to int) (api.Inode, api.Errno) {
	var holes []int
	for k := from / api.BlockBytes; k < blocksOf(to); k++ {
		if n.Blocks[k] == 0 {
			holes = append(holes, k)
		}
	}
	l, e := palloc.Take(j.s, len(holes))
	if e != api.OK {
		return api.Inode{}, e
	}
	for at, k := range holes {
		n.Blocks[k] = l[at]
	}
	return n, api.OK
}

// contentOf has noughts for holes: the words of the block 0 are nobody's.
func (j job) contentOf(n api.Inode) content {
	var c content
	for k, b := range n.Blocks {
		if b == 0 {
			continue
		}
		for w := range api.BlockWords {
			bytes := pack.Bytes(j.s.Get(tx.Block(b) + w))
			copy(c[k*api.BlockBytes+w*wordBytes:], bytes[:])
		}
	}
	return c
}

// putContent lays a content over all blocks of a file; what is the same then needs no commit.
func (j job) putContent(n api.Inode, c content) {
	for k, b := range n.Blocks {
		if b == 0 {
			continue
		}
		for w := range api.BlockWords {
			at := k*api.BlockBytes + w*wordBytes
			j.s.Put(tx.Block(b)+w, pack.Join([wordBytes]byte(c[at:at+wordBytes])))
		}
	}
}

// blocksOf is how many blocks so many bytes reach into.
func blocksOf(size int) int {
	return (size + api.BlockBytes - 1) / api.BlockBytes
}
