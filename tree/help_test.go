package tree_test

import (
	"math"
	"slices"
	"strconv"
	"strings"
	"testing"

	"imago/api"
	"imago/inode"
	"imago/tree"
	"imago/tx"
)

// noInodes are numbers that are no inode's; some would be one's, if bits of them were lost.
var noInodes = []int{math.MinInt, math.MinInt + 5, -1 << 32, -1<<32 + 5, -103, -32, -1, 32, 33, 64, 256, 261, 1 << 32, 1<<32 + 5, math.MaxInt}

// noNames are texts that are no names.
var noNames = []string{
	"", ".", "..", "/", "a/", "/a", "a/b", "abcdefgh", "abcdefghi", " ", "a b", "\x00", "a\x00", "\x7f", "\x80", "\xff", "é", "a\n", strings.Repeat("a", 263),
}

var formats = []int{api.Old, api.New}

// names are those of a path, which is written with blanks between them.
func names(path string) []string {
	return strings.Fields(path)
}

// dir is a directory whose entries are written with blanks between them: "a1" for a name a of the inode 1.
func dir(format int, entries string) api.Inode {
	n := api.Inode{Format: format, Kind: api.Dir, Links: 1}
	for _, x := range strings.Fields(entries) {
		name := strings.TrimRight(x, "0123456789")
		ino, _ := strconv.Atoi(x[len(name):])
		n.Entries = append(n.Entries, api.Entry{Name: name, Ino: ino})
	}
	n.Size = len(n.Entries)
	return n
}

func file(format int) api.Inode {
	return api.Inode{Format: format, Kind: api.File, Links: 1}
}

// dirOf is a directory of such names; their inodes are 0, 1, and so on.
func dirOf(format int, l ...string) api.Inode {
	n := api.Inode{Format: format, Kind: api.Dir, Links: 1, Size: len(l)}
	for k, name := range l {
		n.Entries = append(n.Entries, api.Entry{Name: name, Ino: k})
	}
	return n
}

// many are so many names, rising, with room for one ahead of each, and behind the last.
func many(count int) []string {
	var l []string
	for k := range count {
		l = append(l, string([]byte{'b' + byte(k/5), 'b' + byte(k%5)*3}))
	}
	return l
}

func put(t *testing.T, s *tx.Sheet, i int, n api.Inode) {
	t.Helper()
	if e := inode.Put(s, i, n); e != api.OK {
		t.Fatalf("put of %v at %d: %v", n, i, e)
	}
}

// spoil lets an inode be one that can't be got.
func spoil(s *tx.Sheet, i int) {
	s.Put(tx.Inode(i), s.Get(tx.Inode(i))|1<<60|3)
}

// free lets an inode be free.
func free(s *tx.Sheet, i int) {
	for k := range api.InodeWords {
		s.Put(tx.Inode(i)+k, 0)
	}
}

// grove is a sheet with each kind of an inode: directories in both formats, the inodes 2 and 9 files, 3 and 11 free, 4 and 12 can't be got.
func grove(t *testing.T) *tx.Sheet {
	t.Helper()
	s := tx.New(nil)
	put(t, s, 0, dir(api.Old, "a1 aaaaaaa13 b2 c3 d4 e5 z0"))
	put(t, s, 1, dir(api.New, "a6 b9 c11 d12 z0"))
	put(t, s, 2, file(api.Old))
	spoil(s, 4)
	put(t, s, 5, dir(api.New, ""))
	put(t, s, 6, dir(api.Old, "a7 b2 c3 d4 z6"))
	put(t, s, 7, dir(api.New, "a31"))
	put(t, s, 9, file(api.New))
	put(t, s, 12, dir(api.Old, "a14"))
	spoil(s, 12)
	put(t, s, 13, dir(api.Old, ""))
	put(t, s, 14, dir(api.New, "a15"))
	put(t, s, 31, dir(api.Old, "a1 b2"))
	return s
}

// but is an inode, altered.
func but(n api.Inode, alter func(n *api.Inode)) api.Inode {
	n.Entries = slices.Clone(n.Entries)
	alter(&n)
	return n
}

// same holds two inodes against each other; a list of no entries may be nil or empty.
func same(a, b api.Inode) bool {
	return a.Format == b.Format && a.Kind == b.Kind && a.Links == b.Links && a.Size == b.Size &&
		a.Blocks == b.Blocks && slices.Equal(a.Entries, b.Entries)
}

func wantWalk(t *testing.T, what string, s *tx.Sheet, path []string, want int, wantE api.Errno) {
	t.Helper()
	if got, e := tree.Walk(s, path); got != want || e != wantE {
		t.Errorf("%s: walk of %q: %d, %v, want %d, %v", what, path, got, e, want, wantE)
	}
}

// wantParent asks for the directory; beside it the path's last name must stand, and none beside an error.
func wantParent(t *testing.T, what string, s *tx.Sheet, path []string, want int, wantE api.Errno) {
	t.Helper()
	wantName := ""
	if wantE == api.OK {
		wantName = path[len(path)-1]
	}
	if got, name, e := tree.Parent(s, path); got != want || name != wantName || e != wantE {
		t.Errorf("%s: parent of %q: %d, %q, %v, want %d, %q, %v", what, path, got, name, e, want, wantName, wantE)
	}
}

func wantFind(t *testing.T, what string, n api.Inode, name string, want int, wantOK bool) {
	t.Helper()
	if got, ok := tree.Find(n, name); got != want || ok != wantOK {
		t.Errorf("%s: find of %q: %d, %v, want %d, %v, in %v", what, name, got, ok, want, wantOK, n.Entries)
	}
}

func wantWith(t *testing.T, what string, n api.Inode, x api.Entry, want api.Inode) {
	t.Helper()
	if got := tree.With(n, x); !same(got, want) {
		t.Errorf("%s: with %v: %v, want %v", what, x, got, want)
	}
}

func wantWithout(t *testing.T, what string, n api.Inode, name string, want api.Inode) {
	t.Helper()
	if got := tree.Without(n, name); !same(got, want) {
		t.Errorf("%s: without %q: %v, want %v", what, name, got, want)
	}
}

func wantBelow(t *testing.T, what string, s *tx.Sheet, dir, i int, want bool) {
	t.Helper()
	if got := tree.Below(s, dir, i); got != want {
		t.Errorf("%s: below %d: %d: %v, want %v", what, dir, i, got, want)
	}
}

// wantUntouched asks that a deed leaves all words, and no put that would have to be undone.
func wantUntouched(t *testing.T, s *tx.Sheet, deed func()) {
	t.Helper()
	mark, words := s.Mark(), s.Words()
	deed()
	if s.Mark() != mark || !slices.Equal(s.Words(), words) {
		t.Errorf("what asks alone has put %d times", s.Mark()-mark)
	}
}
