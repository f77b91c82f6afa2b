package script_test

import (
	"maps"
	"slices"
	"strings"
	"testing"

	"imago/api"
	"imago/vfs"
)

// thing is what the plain model knows of an inode.
type thing struct {
	kind, links int
	data        string
}

// tree is a plain model of directories and files. It knows where whole paths lead, and neither entries, nor blocks, nor formats.
type tree struct {
	things         [32]thing
	at             map[string]int // by whole path: /d/a is the name a in the directory /d, that of no names is the root
	target, cursor int
}

func newTree(format int) *tree {
	t := &tree{at: map[string]int{"": 0}, target: format, cursor: 32}
	t.things[0] = thing{kind: api.Dir, links: 1}
	return t
}

func (t *tree) copied() *tree {
	next := *t
	next.at = maps.Clone(t.at)
	return &next
}

func (t *tree) same(u *tree) bool {
	return t.things == u.things && maps.Equal(t.at, u.at) && t.target == u.target && t.cursor == u.cursor
}

// goodName tells whether a name is one: 1 to 7 bytes from ! to ~, no stroke, neither . nor ..
func goodName(name string) bool {
	wrong := func(r rune) bool { return r < '!' || r > '~' || r == '/' }
	return len(name) > 0 && len(name) < 8 && !strings.ContainsFunc(name, wrong) && name != "." && name != ".."
}

// keyOf is a path in one text.
func keyOf(l []string) string {
	key := ""
	for _, name := range l {
		key += "/" + name
	}
	return key
}

// walk tells where a path leads.
func (t *tree) walk(l []string) (int, api.Errno) {
	for _, name := range l {
		if !goodName(name) {
			return 0, api.ErrArg
		}
	}
	for n := range l {
		if t.things[t.at[keyOf(l[:n])]].kind != api.Dir {
			return 0, api.ErrNotDir
		}
		if _, ok := t.at[keyOf(l[:n+1])]; !ok {
			return 0, api.ErrNoEnt
		}
	}
	return t.at[keyOf(l)], api.OK
}

// parent asks for all of a path but whether its last name is there; this it tells beside.
func (t *tree) parent(l []string) (there bool, e api.Errno) {
	if len(l) == 0 {
		return false, api.ErrArg
	}
	_, e = t.walk(l)
	if e == api.ErrNoEnt {
		_, e := t.walk(l[:len(l)-1])
		return false, e
	}
	return e == api.OK, e
}

// below are the paths that go on from one.
func (t *tree) below(key string) []string {
	var l []string
	for _, k := range slices.Sorted(maps.Keys(t.at)) {
		if strings.HasPrefix(k, key+"/") {
			l = append(l, k)
		}
	}
	return l
}

// entries are the names of a directory.
func (t *tree) entries(key string) []api.Entry {
	var l []api.Entry
	for _, k := range t.below(key) {
		if name := k[len(key)+1:]; !strings.Contains(name, "/") {
			l = append(l, api.Entry{Name: name, Ino: t.at[k]})
		}
	}
	return l
}

// do does an op, if nothing is wrong, as if there always were blocks enough.
func (t *tree) do(o vfs.Op) (vfs.Result, *tree) {
	next := t.copied()
	r := vfs.Result{E: api.ErrArg}
	switch o.Kind {
	case 0, 1:
		r.N, r.E = next.create(o.Path, o.Kind+1)
	case 2, 3, 4:
		r = next.file(o)
	case 5, 6:
		r.E = next.remove(o.Path, o.Kind == 6)
	case 7:
		r.E = next.rename(o.Path, o.To)
	case 8:
		r.E = next.link(o.Path, o.To)
	case 9, 10:
		r = next.look(o)
	case 11:
		if o.N == api.Old || o.N == api.New {
			r.E = api.OK
			if t.target != o.N {
				next.target, next.cursor = o.N, 0
			}
		}
	case 12:
		next.cursor = min(t.cursor+1, 32)
		r = vfs.Result{N: next.cursor / 32}
	}
	if r.E != api.OK {
		return vfs.Result{E: r.E}, t
	}
	return r, next
}

// vacant asks whether something can be named so.
func (t *tree) vacant(l []string) api.Errno {
	if len(l) == 0 {
		return api.ErrExist
	}
	there, e := t.parent(l)
	if there {
		return api.ErrExist
	}
	return e
}

// room asks whether a directory has no more entries than it can.
func (t *tree) room(l []string) api.Errno {
	if len(t.entries(keyOf(l[:len(l)-1]))) > 24 {
		return api.ErrSpace
	}
	return api.OK
}

func (t *tree) create(l []string, kind int) (int, api.Errno) {
	if e := t.vacant(l); e != api.OK {
		return 0, e
	}
	i := slices.Index(t.things[:], thing{})
	if i < 0 {
		return 0, api.ErrSpace
	}
	t.things[i] = thing{kind: kind, links: 1}
	t.at[keyOf(l)] = i
	return i, t.room(l)
}

func (t *tree) unlink(i int) {
	t.things[i].links--
	if t.things[i].links == 0 {
		t.things[i] = thing{}
	}
}

func (t *tree) file(o vfs.Op) vfs.Result {
	i, e := t.walk(o.Path)
	x := &t.things[i]
	from, n := o.Off, o.N
	if o.Kind == 2 {
		n = len(o.Data)
	} else if o.Kind == 4 {
		from = 0
	}
	switch {
	case e != api.OK:
		return vfs.Result{E: e}
	case x.kind == api.Dir:
		return vfs.Result{E: api.ErrIsDir}
	case from < 0 || n < 0:
		return vfs.Result{E: api.ErrArg}
	case o.Kind == 3:
		from = min(from, len(x.data))
		return vfs.Result{Data: []byte(x.data[from : from+min(n, len(x.data)-from)])}
	case from > 832 || n > 832-from:
		return vfs.Result{E: api.ErrLong}
	case o.Kind == 4:
		x.data = x.data[:min(n, len(x.data))] + strings.Repeat("\x00", max(0, n-len(x.data)))
		return vfs.Result{}
	case n > 0:
		was := x.data + strings.Repeat("\x00", max(0, from+n-len(x.data)))
		x.data = was[:from] + string(o.Data) + was[from+n:]
	}
	return vfs.Result{N: n}
}

func (t *tree) remove(l []string, dir bool) api.Errno {
	if len(l) == 0 && !dir {
		return api.ErrIsDir
	}
	there, e := t.parent(l)
	i := t.at[keyOf(l)]
	switch is := t.things[i].kind; {
	case e != api.OK:
		return e
	case !there:
		return api.ErrNoEnt
	case !dir && is == api.Dir:
		return api.ErrIsDir
	case dir && is != api.Dir:
		return api.ErrNotDir
	case len(t.below(keyOf(l))) > 0:
		return api.ErrEmpty
	}
	delete(t.at, keyOf(l))
	t.unlink(i)
	return api.OK
}

func (t *tree) rename(l, to []string) api.Errno {
	if len(l) == 0 || len(to) == 0 {
		return api.ErrArg
	}
	there, e := t.parent(l)
	if e != api.OK {
		return e
	}
	if !there {
		return api.ErrNoEnt
	}
	old, e := t.parent(to)
	key, toKey := keyOf(l), keyOf(to)
	i, j := t.at[key], t.at[toKey]
	dir := t.things[i].kind == api.Dir
	switch {
	case e != api.OK:
		return e
	case old && i == j:
		return api.OK
	case strings.HasPrefix(toKey, key+"/"):
		return api.ErrLoop
	case old && dir && t.things[j].kind != api.Dir:
		return api.ErrNotDir
	case old && dir && len(t.below(toKey)) > 0:
		return api.ErrEmpty
	case old && !dir && t.things[j].kind == api.Dir:
		return api.ErrIsDir
	case old:
		t.unlink(j)
	}
	for _, k := range append(t.below(key), key) {
		t.at[toKey+k[len(key):]] = t.at[k]
		delete(t.at, k)
	}
	return t.room(to)
}

func (t *tree) link(l, to []string) api.Errno {
	i, e := t.walk(l)
	if e != api.OK {
		return e
	}
	if t.things[i].kind == api.Dir {
		return api.ErrIsDir
	}
	if e := t.vacant(to); e != api.OK {
		return e
	}
	t.things[i].links++
	t.at[keyOf(to)] = i
	return t.room(to)
}

func (t *tree) look(o vfs.Op) vfs.Result {
	i, e := t.walk(o.Path)
	if e != api.OK {
		return vfs.Result{E: e}
	}
	x, l := t.things[i], t.entries(keyOf(o.Path))
	if o.Kind == 10 {
		return vfs.Result{N: len(x.data) + len(l), Kind: x.kind, Links: x.links, Ino: i}
	}
	if x.kind != api.Dir {
		return vfs.Result{E: api.ErrNotDir}
	}
	return vfs.Result{Entries: l}
}

// asked is the tree that a file system's ops tell of, from the root on.
func asked(t *testing.T, f *vfs.FS) *tree {
	t.Helper()
	s := f.Sheet()
	is := &tree{at: map[string]int{}, target: int(s.Get(api.TargetAt)), cursor: int(s.Get(api.CursorAt))}
	for l := [][]string{nil}; len(l) > 0; l = l[1:] {
		told, kind := f.Do(vfs.Op{Kind: 10, Path: l[0]}), 3
		if told.Kind == api.Dir {
			kind = 9
		}
		more := f.Do(vfs.Op{Kind: kind, Path: l[0], N: told.N + 1})
		if told.E != api.OK || more.E != api.OK || told.N != len(more.Data)+len(more.Entries) {
			t.Fatalf("%v: %v, %v", l[0], told, more)
		}
		is.at[keyOf(l[0])] = told.Ino
		is.things[told.Ino] = thing{told.Kind, told.Links, string(more.Data)}
		for _, x := range more.Entries {
			l = append(l, slices.Concat(l[0], []string{x.Name}))
		}
	}
	return is
}
