package tree_test

import (
	"slices"
	"testing"

	"imago/api"
	"imago/fmt1"
	"imago/tree"
)

// rising are names in the order in which entries stand, that of their bytes: not that of their lengths, nor of their words.
var rising = []string{"!", "!!!!!!!", "-", "...", "0", "00", "1", "A", "B", "Z", "_", "a", "aa", "aaaaaaa", "aaaaaab", "ab", "abc", "b", "ba", "baaaaaa", "c", "}", "~", "~~~~~~~"}

// P9.2: each name of directories of all lengths is found, and none beside them.
func TestFind(t *testing.T) {
	for count := range api.MaxEntries + 1 {
		n := dirOf(api.Old, many(count)...)
		for k, name := range many(count) {
			wantFind(t, "each", n, name, k, true)
			wantFind(t, "behind it", n, name+"!", 0, false)
			wantFind(t, "its beginning", n, name[:1], 0, false)
		}
		wantFind(t, "ahead of all", n, "a", 0, false)
		wantFind(t, "behind all", n, "z", 0, false)
	}
}

// P9.2: names in the order of their bytes are found, whichever of them are there.
func TestFindByBytes(t *testing.T) {
	for from := range len(rising) {
		for to := from; to <= len(rising); to++ {
			n := dirOf(api.New, rising[from:to]...)
			for k, name := range rising {
				there := k >= from && k < to
				want := 0
				if there {
					want = k - from
				}
				wantFind(t, "a stretch", n, name, want, there)
			}
		}
	}
}

// P9.2: an entry of the inode 0 is found too.
func TestFindTheInode(t *testing.T) {
	n := dir(api.Old, "a31 b0 c0 d7")
	wantFind(t, "the inode", n, "a", 31, true)
	wantFind(t, "the inode", n, "b", 0, true)
	wantFind(t, "the inode", n, "c", 0, true)
	wantFind(t, "the inode", n, "d", 7, true)
}

// P9.2: an entry put first, in the middle, last; in the place of one; into directories of all lengths.
func TestWith(t *testing.T) {
	for count := range api.MaxEntries + 1 {
		n := dirOf(formats[count%2], many(count)...)
		n.Links = count
		for at := range count + 1 {
			x := api.Entry{Name: "a", Ino: 31 - at}
			if at > 0 {
				x.Name = n.Entries[at-1].Name + "~"
			}
			want := but(n, func(n *api.Inode) { n.Entries, n.Size = slices.Insert(n.Entries, at, x), count+1 })
			wantWith(t, "a new one", n, x, want)
			wantWithout(t, "taken out again", want, x.Name, n)
		}
		for at := range count {
			x := api.Entry{Name: n.Entries[at].Name, Ino: 31 - at}
			wantWith(t, "in its place", n, x, but(n, func(n *api.Inode) { n.Entries[at] = x }))
		}
	}
}

// P9.2: an entry taken out first, in the middle, last, of directories of all lengths; a name that isn't there takes none.
func TestWithout(t *testing.T) {
	for count := range api.MaxEntries + 1 {
		n := dirOf(formats[count%2], many(count)...)
		n.Links = 65535 - count
		for at, name := range many(count) {
			want := but(n, func(n *api.Inode) { n.Entries, n.Size = slices.Delete(n.Entries, at, at+1), count-1 })
			wantWithout(t, "one", n, name, want)
			wantWithout(t, "twice", want, name, want)
			wantWith(t, "put in again", want, n.Entries[at], n)
			wantWithout(t, "its beginning", n, name[:1], n)
			wantWithout(t, "one behind it", n, name+"!", n)
		}
		wantWithout(t, "ahead of all", n, "a", n)
		wantWithout(t, "behind all", n, "z", n)
	}
}

// P9.2: entries that are put in in whatever order stand by their names' bytes, in a directory that is right.
func TestWithByBytes(t *testing.T) {
	want := dirOf(api.New, rising...)
	for _, step := range []int{1, 5, 7, 11, 13, 17, 19, 23} {
		n := dir(api.New, "")
		for k := range rising {
			n = tree.With(n, want.Entries[k*step%len(rising)])
			if !fmt1.Right(n) || n.Size != k+1 {
				t.Errorf("not right behind %d: %v", k, n)
			}
		}
		if !same(n, want) {
			t.Errorf("by steps of %d: %v, want %v", step, n, want)
		}
		for k := range rising {
			n = tree.Without(n, rising[k*step%len(rising)])
			if !fmt1.Right(n) || n.Size != len(rising)-1-k {
				t.Errorf("not right without %d: %v", k, n)
			}
		}
		if !same(n, dir(api.New, "")) {
			t.Errorf("by steps of %d: %v are left", step, n)
		}
	}
}

// P9.2, the size is how many there are, whatever it was; all else of the inode stays, be it a directory that is right or not.
func TestWhatStays(t *testing.T) {
	for _, n := range []api.Inode{
		{},
		file(api.New),
		dir(api.Old, "a1 c2"),
		but(dir(api.Old, "a1 c2"), func(n *api.Inode) { n.Size = 0 }),
		but(dir(api.Old, "a1 c2"), func(n *api.Inode) { n.Size = -7 }),
		but(dir(api.Old, "a1 c2"), func(n *api.Inode) { n.Size = 1000 }),
		but(dir(3, "a1 c2"), func(n *api.Inode) { n.Kind, n.Links = 9, -1 }),
		but(dir(-1, "a1 c32 d99"), func(n *api.Inode) { n.Kind, n.Entries[0].Ino = api.File, -1 }),
		but(dir(api.New, "a1"), func(n *api.Inode) { n.Blocks = [api.MaxBlocks]int{12: 255, 3: -1} }),
	} {
		want := but(n, func(n *api.Inode) {
			n.Entries = append(n.Entries, api.Entry{Name: "e", Ino: 5})
			n.Size = len(n.Entries)
		})
		wantWith(t, "what stays", n, api.Entry{Name: "e", Ino: 5}, want)
		want = but(n, func(n *api.Inode) { n.Size = len(n.Entries) })
		wantWithout(t, "what stays", n, "e", want)
	}
}

// P9.2: nobody asks whether a name is one: one that is none is found where an entry has it, and is put and taken out by its bytes.
func TestNoNames(t *testing.T) {
	n := dir(api.Old, "A1 a2 c3")
	for _, none := range noNames {
		wantFind(t, "not there", n, none, 0, false)
		wantWithout(t, "not there", n, none, n)
		x := api.Entry{Name: none, Ino: 9}
		want := but(n, func(n *api.Inode) {
			n.Entries = append(n.Entries, x)
			slices.SortFunc(n.Entries, func(a, b api.Entry) int { return slices.Compare([]byte(a.Name), []byte(b.Name)) })
			n.Size = 4
		})
		wantWith(t, "put", n, x, want)
		wantFind(t, "there", want, none, 9, true)
		wantFind(t, "beside", want, "c", 3, true)
		x.Ino = 10
		wantWith(t, "put again", want, x, but(want, func(n *api.Inode) { n.Entries[slices.Index(n.Entries, api.Entry{Name: none, Ino: 9})] = x }))
		wantWithout(t, "taken out", want, none, n)
	}
}

// P9.2: an entry's inode is told as it is, though it be none.
func TestNoInodes(t *testing.T) {
	for _, i := range noInodes {
		x := api.Entry{Name: "b", Ino: i}
		n := dir(api.New, "a1 b2 c3")
		want := but(n, func(n *api.Inode) { n.Entries[1] = x })
		wantWith(t, "no inode", n, x, want)
		wantFind(t, "no inode", want, "b", i, true)
		wantWithout(t, "no inode", want, "b", dir(api.New, "a1 c3"))
	}
}

// P9.2: with more entries than a directory may have it is done all the same.
func TestTooMany(t *testing.T) {
	n := dirOf(api.Old, many(api.MaxEntries)...)
	n = tree.With(n, api.Entry{Name: "zz", Ino: 1})
	if n.Size != api.MaxEntries+1 || len(n.Entries) != api.MaxEntries+1 || fmt1.Right(n) {
		t.Error("one more than there may be:", n)
	}
	var l []string
	for k := range 1000 {
		l = append(l, string([]byte{'a' + byte(k/100), 'a' + byte(k/10%10), 'a' + byte(k%10)}))
	}
	n = dirOf(api.New, l...)
	for k, name := range l {
		wantFind(t, "of a thousand", n, name, k, true)
		wantFind(t, "of a thousand", n, name+"a", 0, false)
	}
	wantWithout(t, "of a thousand", n, "aaa", but(n, func(n *api.Inode) { n.Entries, n.Size = n.Entries[1:], 999 }))
}

// P9.2: of two entries of one name the first one is meant, and it alone.
func TestTwoOfOneName(t *testing.T) {
	n := dir(api.Old, "a1 b2 b3 b4 c5")
	wantFind(t, "two", n, "b", 2, true)
	wantWith(t, "two", n, api.Entry{Name: "b", Ino: 9}, dir(api.Old, "a1 b9 b3 b4 c5"))
	wantWithout(t, "two", n, "b", dir(api.Old, "a1 b3 b4 c5"))
}

// R1: where names don't rise all the same nothing is lost but what is taken out, and the calls end.
func TestNotRising(t *testing.T) {
	for _, entries := range []string{"b1 a2", "c1 b2 a3", "b1 a2 c3", "z1 a2 z3 a4 m5 b6 z7", "a1 aaa2 aa3", "c1 c2 a3 c4"} {
		n := dir(api.New, entries)
		for _, name := range names("a b c m z aa aaa zz !") {
			x := api.Entry{Name: name, Ino: 20}
			_, there := tree.Find(n, name)
			more, less := len(n.Entries)+1, len(n.Entries)
			if there {
				more, less = more-1, less-1
			}
			with, without := tree.With(n, x), tree.Without(n, name)
			if with.Size != more || len(with.Entries) != more || !slices.Contains(with.Entries, x) {
				t.Errorf("with %v: %v, of %v", x, with, n)
			}
			if without.Size != less || len(without.Entries) != less {
				t.Errorf("without %s: %v, of %v", name, without, n)
			}
			for _, y := range n.Entries {
				if y.Name != name && (!slices.Contains(with.Entries, y) || !slices.Contains(without.Entries, y)) {
					t.Errorf("%v is lost of %v by %s", y, n, name)
				}
			}
		}
		if !same(n, dir(api.New, entries)) {
			t.Error("what was handed in is another", n)
		}
	}
}

// R5: what is handed in is left, its spare room too; what is answered shares nothing with it.
func TestNothingShared(t *testing.T) {
	for count := range api.MaxEntries {
		room := dirOf(api.Old, many(api.MaxEntries)...).Entries
		kept := slices.Clone(room)
		n := api.Inode{Format: api.Old, Kind: api.Dir, Links: 1, Size: count, Entries: room[:count]}
		for _, name := range append(many(count+1), "a", "z") {
			for _, got := range []api.Inode{tree.With(n, api.Entry{Name: name, Ino: 30}), tree.Without(n, name)} {
				if !slices.Equal(room, kept) || len(n.Entries) != count || n.Size != count {
					t.Fatalf("by %s of %d: what was handed in is another: %v", name, count, room)
				}
				clear(got.Entries[:cap(got.Entries)])
				if !slices.Equal(room, kept) {
					t.Fatalf("by %s of %d: what is answered is of what was handed in", name, count)
				}
			}
			tree.Find(n, name)
		}
	}
}
