package vfs_test

import (
	"slices"

	"imago/api"
	"imago/fmt2"
	"imago/inode"
	"imago/palloc"
	"imago/tx"
	"imago/vfs"
)

// node is what the plain model knows of an inode: it has neither blocks nor a format.
type node struct {
	kind, links int
	data        string
	count       int
	names       [24]api.Entry
}

// world is the plain model: it is a value, so that what an op would do can be had beside what is.
type world struct {
	nodes          [32]node
	target, cursor int
}

func newWorld(format int) world {
	w := world{target: format, cursor: 32}
	w.nodes[0] = node{kind: 2, links: 1}
	return w
}

// find tells where a name leads; -1, if it isn't there.
func (n node) find(name string) int {
	for _, x := range n.names[:n.count] {
		if x.Name == name {
			return x.Ino
		}
	}
	return -1
}

// with is a directory in which a name leads to an inode; false, if there is no room for it.
func (n node) with(name string, ino int) (node, bool) {
	n = n.without(name)
	if n.count == 24 {
		return node{}, false
	}
	at := 0
	for at < n.count && n.names[at].Name < name {
		at++
	}
	copy(n.names[at+1:], n.names[at:n.count])
	n.names[at] = api.Entry{Name: name, Ino: ino}
	n.count++
	return n, true
}

func (n node) without(name string) node {
	l := slices.DeleteFunc(slices.Clone(n.names[:n.count]), func(x api.Entry) bool { return x.Name == name })
	n.names, n.count = [24]api.Entry{}, len(l)
	copy(n.names[:], l)
	return n
}

// good tells whether all names of a path are names.
func good(l []string) bool {
	for _, name := range l {
		if name == "" || len(name) > 7 || name == "." || name == ".." {
			return false
		}
		for at := range len(name) {
			if name[at] <= ' ' || name[at] > '~' || name[at] == '/' {
				return false
			}
		}
	}
	return true
}

func (w *world) walk(l []string) (int, api.Errno) {
	if !good(l) {
		return 0, api.ErrArg
	}
	i := 0
	for _, name := range l {
		if w.nodes[i].kind != 2 {
			return 0, api.ErrNotDir
		}
		if i = w.nodes[i].find(name); i < 0 {
			return 0, api.ErrNoEnt
		}
	}
	return i, api.OK
}

// parent tells a path's directory, its last name, and where that leads; -1, if it isn't there.
func (w *world) parent(l []string) (int, string, int, api.Errno) {
	if len(l) == 0 || !good(l) {
		return 0, "", 0, api.ErrArg
	}
	last := len(l) - 1
	dir, e := w.walk(l[:last])
	if e == api.OK && w.nodes[dir].kind != 2 {
		e = api.ErrNotDir
	}
	if e != api.OK {
		return 0, "", 0, e
	}
	return dir, l[last], w.nodes[dir].find(l[last]), api.OK
}

// do tells what an op should tell, and the world behind it, as if there always were blocks enough.
func (w world) do(o vfs.Op) (vfs.Result, world) {
	next := w
	r := vfs.Result{E: api.ErrArg}
	switch o.Kind {
	case 0, 1:
		r = next.make(o)
	case 2, 3, 4:
		r = next.file(o)
	case 5, 6:
		r.E = next.remove(o)
	case 7:
		r.E = next.rename(o)
	case 8:
		r.E = next.link(o)
	case 9, 10:
		r = next.look(o)
	case 11:
		if o.N == 1 || o.N == 2 {
			r.E = api.OK
			if next.target != o.N {
				next.target, next.cursor = o.N, 0
			}
		}
	case 12:
		r.E = api.OK
		next.cursor = min(next.cursor+1, 32)
		r.N = next.cursor / 32
	}
	if r.E != api.OK {
		return vfs.Result{E: r.E}, w
	}
	return r, next
}

func (w *world) make(o vfs.Op) vfs.Result {
	if len(o.Path) == 0 {
		return vfs.Result{E: api.ErrExist}
	}
	dir, name, at, e := w.parent(o.Path)
	if e != api.OK {
		return vfs.Result{E: e}
	}
	if at >= 0 {
		return vfs.Result{E: api.ErrExist}
	}
	for i, n := range w.nodes {
		if n.kind == 0 {
			w.nodes[i] = node{kind: o.Kind + 1, links: 1}
			return vfs.Result{N: i, E: w.enter(dir, name, i)}
		}
	}
	return vfs.Result{E: api.ErrSpace}
}

func (w *world) enter(dir int, name string, i int) api.Errno {
	n, ok := w.nodes[dir].with(name, i)
	if !ok {
		return api.ErrSpace
	}
	w.nodes[dir] = n
	return api.OK
}

func (w *world) unlink(i int) {
	w.nodes[i].links--
	if w.nodes[i].links == 0 {
		w.nodes[i] = node{}
	}
}

// file is what is asked of a file's bytes.
func (w *world) file(o vfs.Op) vfs.Result {
	i, e := w.walk(o.Path)
	if e != api.OK {
		return vfs.Result{E: e}
	}
	if w.nodes[i].kind == 2 {
		return vfs.Result{E: api.ErrIsDir}
	}
	data := []byte(w.nodes[i].data)
	switch {
	case o.Kind != 4 && o.Off < 0, o.Kind != 2 && o.N < 0:
		return vfs.Result{E: api.ErrArg}
	case o.Kind == 2 && (o.Off > 832 || o.Off+len(o.Data) > 832), o.Kind == 4 && o.N > 832:
		return vfs.Result{E: api.ErrLong}
	case o.Kind == 3:
		data = data[min(o.Off, len(data)):]
		return vfs.Result{Data: data[:min(o.N, len(data))]}
	case o.Kind == 4:
		long := append(data, make([]byte, 832)...)
		w.nodes[i].data = string(long[:o.N])
		return vfs.Result{}
	case len(o.Data) > 0:
		long := append(data, make([]byte, 832)...)
		copy(long[o.Off:], o.Data)
		w.nodes[i].data = string(long[:max(len(data), o.Off+len(o.Data))])
	}
	return vfs.Result{N: len(o.Data)}
}

func (w *world) remove(o vfs.Op) api.Errno {
	if len(o.Path) == 0 && o.Kind == 5 {
		return api.ErrIsDir
	}
	dir, name, i, e := w.parent(o.Path)
	switch {
	case e != api.OK:
		return e
	case i < 0:
		return api.ErrNoEnt
	case o.Kind == 5 && w.nodes[i].kind == 2:
		return api.ErrIsDir
	case o.Kind == 6 && w.nodes[i].kind == 1:
		return api.ErrNotDir
	case o.Kind == 6 && w.nodes[i].count > 0:
		return api.ErrEmpty
	}
	w.nodes[dir] = w.nodes[dir].without(name)
	w.unlink(i)
	return api.OK
}

func (w *world) rename(o vfs.Op) api.Errno {
	if len(o.Path) == 0 || len(o.To) == 0 {
		return api.ErrArg
	}
	dir, name, i, e := w.parent(o.Path)
	if e != api.OK {
		return e
	}
	if i < 0 {
		return api.ErrNoEnt
	}
	toDir, toName, to, e := w.parent(o.To)
	switch {
	case e != api.OK:
		return e
	case to == i:
		return api.OK
	case w.under(i, toDir):
		return api.ErrLoop
	case to >= 0 && w.nodes[i].kind == 2 && w.nodes[to].kind == 1:
		return api.ErrNotDir
	case to >= 0 && w.nodes[i].kind == 2 && w.nodes[to].count > 0:
		return api.ErrEmpty
	case to >= 0 && w.nodes[i].kind == 1 && w.nodes[to].kind == 2:
		return api.ErrIsDir
	}
	w.nodes[dir] = w.nodes[dir].without(name)
	if to >= 0 {
		w.unlink(to)
	}
	return w.enter(toDir, toName, i)
}

// under tells whether one comes from an inode to another: in a tree it is enough to go down each way.
func (w *world) under(from, i int) bool {
	if from == i {
		return true
	}
	n := w.nodes[from]
	for _, x := range n.names[:n.count] {
		if w.under(x.Ino, i) {
			return true
		}
	}
	return false
}

func (w *world) link(o vfs.Op) api.Errno {
	i, e := w.walk(o.Path)
	if e != api.OK {
		return e
	}
	if w.nodes[i].kind == 2 {
		return api.ErrIsDir
	}
	if len(o.To) == 0 {
		return api.ErrExist
	}
	dir, name, to, e := w.parent(o.To)
	if e != api.OK {
		return e
	}
	if to >= 0 {
		return api.ErrExist
	}
	w.nodes[i].links++
	return w.enter(dir, name, i)
}

func (w *world) look(o vfs.Op) vfs.Result {
	i, e := w.walk(o.Path)
	if e != api.OK {
		return vfs.Result{E: e}
	}
	n := w.nodes[i]
	if o.Kind == 10 {
		return vfs.Result{N: n.count + len(n.data), Kind: n.kind, Links: n.links, Ino: i}
	}
	if n.kind != 2 {
		return vfs.Result{E: api.ErrNotDir}
	}
	return vfs.Result{Entries: n.names[:n.count]}
}

// lacks tells whether there are too few blocks for an op that would be OK otherwise.
func lacks(s *tx.Sheet, o vfs.Op, was, next world) bool {
	more := 0
	for i, n := range next.nodes {
		if n.kind == 2 && n != was.nodes[i] {
			got, own, _ := inode.Get(s, i)
			got.Entries, got.Size = n.names[:n.count], n.count
			more += need(got) - len(own)
		}
	}
	switch o.Kind {
	case 2:
		i, _ := was.walk(o.Path)
		n, own, _ := inode.Get(s, i)
		return len(o.Data) > 0 && lacksFor(s, n, len(own), o.Off/64, (o.Off+len(o.Data)-1)/64)
	case 12:
		if n, own, e := inode.Get(s, was.cursor); e == api.OK {
			n.Format = was.target
			more += need(n) - len(own)
		}
	case 0, 1, 7, 8:
	default:
		return false // of these none takes room
	}
	return more > palloc.Free(s)
}

// lacksFor tells whether there are too few blocks for a file's holes from one place to another, and then for its own blocks.
func lacksFor(s *tx.Sheet, n api.Inode, own, first, last int) bool {
	free, b := palloc.Free(s), 0
	for k := first; k <= last; k++ {
		if n.Blocks[k] != 0 {
			continue
		}
		for b++; b < 256 && palloc.Used(s, b); b++ {
		}
		if b > 255 {
			return true
		}
		n.Blocks[k] = b
		free--
	}
	n.Size = 832
	return need(n)-own > free
}

// need is how many blocks an inode takes for itself in its format; one that was free is made without any.
func need(n api.Inode) int {
	if n.Format == api.New {
		return fmt2.Need(n)
	}
	blocks := (len(n.Entries) + 3) / 4
	if blocks > 5 || [8]int(n.Blocks[5:]) != [8]int{} {
		blocks++
	}
	return blocks
}
