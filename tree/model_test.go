package tree_test

import (
	"maps"
	"slices"
	"testing"

	"imago/api"
	"imago/inode"
	"imago/tree"
	"imago/tx"
)

// dice is a fixed row of numbers, so that each run asks the same.
type dice uint64

func (d *dice) upTo(n int) int {
	*d = *d*6364136223846793005 + 1442695040888963407
	return int(uint64(*d) >> 33 % uint64(n))
}

// pool are the names of the model: few, so that paths often lead somewhere.
var pool = names("a b c aa ab ba aaaaaaa ~ ! A ... .a 0 1 2 3 4 5 6 7 8 9 x y z Z -")

// slot is what the model knows of an inode: what errors its Get has, and its entries by their names.
type slot struct {
	e       api.Errno
	dir     bool
	entries map[string]int
}

// world is a sheet of any inodes, and what the model knows of them.
type world struct {
	s     *tx.Sheet
	slots [api.Inodes]slot
}

// entriesOf rolls some entries of the pool's first names.
func (d *dice) entriesOf(most, first int) map[string]int {
	m := map[string]int{}
	for range d.upTo(most + 1) {
		m[pool[d.upTo(first)]] = d.upTo(api.Inodes)
	}
	return m
}

// listed are such entries by their names.
func listed(m map[string]int) []api.Entry {
	var l []api.Entry
	for _, name := range slices.Sorted(maps.Keys(m)) {
		l = append(l, api.Entry{Name: name, Ino: m[name]})
	}
	return l
}

// newWorld rolls what stands at each inode; the more often directories, the smaller the share of others is.
func newWorld(t *testing.T, d *dice) *world {
	w := &world{s: tx.New(nil)}
	others := 1 + d.upTo(40)
	for i := range w.slots {
		format := formats[d.upTo(2)]
		switch d.upTo(others + 6) {
		case 0:
			w.slots[i] = slot{e: api.ErrNoEnt}
		case 1:
			put(t, w.s, i, file(format))
			w.slots[i] = slot{}
		case 2:
			spoil(w.s, i)
			w.slots[i] = slot{e: api.ErrCorrupt}
		default:
			w.slots[i] = slot{dir: true, entries: d.entriesOf(7, 7)}
			n := dir(format, "")
			n.Entries = listed(w.slots[i].entries)
			n.Size = len(n.Entries)
			put(t, w.s, i, n)
		}
	}
	return w
}

// asks tells the error of looking for names in an inode.
func (w *world) asks(i int) api.Errno {
	if w.slots[i].e == api.OK && !w.slots[i].dir {
		return api.ErrNotDir
	}
	return w.slots[i].e
}

// walk goes on from an inode; the inode to which it comes, or why it doesn't.
func (w *world) walk(i int, path []string) (int, api.Errno) {
	if len(path) == 0 {
		return i, api.OK
	}
	if e := w.asks(i); e != api.OK {
		return 0, e
	}
	next, ok := w.slots[i].entries[path[0]]
	if !ok {
		return 0, api.ErrNoEnt
	}
	return w.walk(next, path[1:])
}

// parent is where a path's last name would be looked for.
func (w *world) parent(path []string) (int, api.Errno) {
	if len(path) == 0 {
		return 0, api.ErrArg
	}
	i, e := w.walk(0, path[:len(path)-1])
	if e == api.OK {
		e = w.asks(i)
	}
	if e != api.OK {
		return 0, e
	}
	return i, api.OK
}

func (w *world) askPath(t *testing.T, path []string, seen map[string]int) {
	t.Helper()
	i, e := w.walk(0, path)
	seen["walk: "+told(e)]++
	wantWalk(t, "model", w.s, path, i, e)
	i, e = w.parent(path)
	seen["parent: "+told(e)]++
	wantParent(t, "model", w.s, path, i, e)
}

func told(e api.Errno) string {
	switch e {
	case api.OK:
		return "there"
	case api.ErrArg:
		return "no name"
	case api.ErrNoEnt:
		return "not there"
	case api.ErrNotDir:
		return "a file"
	case api.ErrCorrupt:
		return "corrupt"
	}
	return "another error"
}

// askBelow goes from each to each by way of every other one.
func (w *world) askBelow(t *testing.T, seen map[string]int) {
	t.Helper()
	var to [api.Inodes][api.Inodes]bool
	for i, x := range w.slots {
		to[i][i] = true
		for _, ino := range x.entries {
			to[i][ino] = true
		}
	}
	for by := range to {
		for i := range to {
			for j := range to {
				to[i][j] = to[i][j] || to[i][by] && to[by][j]
			}
		}
	}
	for i := range to {
		for j := range to {
			if to[i][j] {
				seen["below"]++
			} else {
				seen["not below"]++
			}
			wantBelow(t, "model", w.s, i, j, to[i][j])
		}
	}
}

// P9.1, P9.2: sheets of any inodes, and any paths on them.
func TestAgainstModel(t *testing.T) {
	seen := map[string]int{}
	for seed := range 120 {
		d := dice(seed)
		w := newWorld(t, &d)
		wantUntouched(t, w.s, func() {
			w.askBelow(t, seen)
			for range 300 {
				path := make([]string, d.upTo(9))
				for k := range path {
					path[k] = pool[d.upTo(8)]
				}
				w.askPath(t, path, seen)
				if len(path) > 0 {
					path[d.upTo(len(path))] = noNames[d.upTo(len(noNames))]
					wantWalk(t, "no name", w.s, path, 0, api.ErrArg)
					wantParent(t, "no name", w.s, path, 0, api.ErrArg)
				}
			}
		})
		if t.Failed() {
			t.Fatalf("world %d", seed)
		}
	}
	for _, what := range []string{
		"walk: there", "walk: not there", "walk: a file", "walk: corrupt",
		"parent: no name", "parent: there", "parent: not there", "parent: a file", "parent: corrupt",
		"below", "not below",
	} {
		if seen[what] < 500 {
			t.Errorf("%s was seen %d times only", what, seen[what])
		}
	}
}

// P9.2: long rows of entries put and taken out, up to as many as there may be; what comes is right, and is got as it was put.
func TestEntriesAgainstModel(t *testing.T) {
	full, empty := 0, 0
	for seed := range 40 {
		d := dice(seed)
		m := map[string]int{}
		n := dir(formats[seed%2], "")
		s := tx.New(nil)
		for step := range 400 {
			grows := step/100%2 == 0 // in turns, so that both ends are come to
			name := pool[d.upTo(len(pool))]
			_, there := m[name]
			if grows == (d.upTo(20) > 0) && (there || len(m) < api.MaxEntries) {
				m[name] = d.upTo(api.Inodes)
				n = tree.With(n, api.Entry{Name: name, Ino: m[name]})
			} else {
				delete(m, name)
				n = tree.Without(n, name)
			}
			switch len(m) {
			case 0:
				empty++
			case api.MaxEntries:
				full++
			}
			askEntries(t, s, n, m)
			if t.Failed() {
				t.Fatalf("row %d, step %d", seed, step)
			}
		}
	}
	if full < 100 || empty < 100 {
		t.Errorf("only %d directories were full, %d empty", full, empty)
	}
}

// askEntries holds a directory, and what is got of it, against the entries that it should have.
func askEntries(t *testing.T, s *tx.Sheet, n api.Inode, m map[string]int) {
	t.Helper()
	want := dir(n.Format, "")
	want.Entries, want.Size = listed(m), len(m)
	put(t, s, 7, n)
	if got, _, e := inode.Get(s, 7); e != api.OK || !same(got, want) || !same(n, want) {
		t.Errorf("%v, got %v, %v, want %v", n, got, e, want)
	}
	for _, name := range pool {
		ino, ok := m[name]
		wantFind(t, "model", n, name, ino, ok)
	}
}
