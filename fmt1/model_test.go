package fmt1_test

import (
	"slices"
	"strings"
	"testing"

	"imago/api"
	"imago/fmt1"
	"imago/tx"
)

// laid are the words of an inode, by their places, with such blocks of its own: the chapter's words anew, number by number.
func laid(i int, n api.Inode, own []int) map[int]uint64 {
	at := 824 + 8*i
	l := map[int]uint64{at: uint64(n.Format + n.Kind*256 + n.Links*65536), at + 1: uint64(n.Size), at + 7: 0}
	blocks := n.Blocks
	if n.Kind == 2 {
		for k := range 13 {
			if 4*k < len(n.Entries) {
				blocks[k] = own[k]
				for word := range 8 {
					l[1080+8*own[k]+word] = entryWord(n.Entries, 8*k+word)
				}
			}
		}
	}
	listed := false
	for k, b := range blocks {
		listed = listed || k >= 5 && b != 0
	}
	if listed {
		l[at+7] = uint64(own[len(own)-1])
	}
	for k, b := range blocks {
		if k < 5 {
			l[at+2+k] = uint64(b)
		} else if listed {
			l[1080+8*own[len(own)-1]+k-5] = uint64(b)
		}
	}
	return l
}

// entryWord is the w-th of all words of a directory's entries.
func entryWord(entries []api.Entry, w int) uint64 {
	if w/2 >= len(entries) {
		return 0
	}
	x := entries[w/2]
	if w%2 == 1 {
		return uint64(x.Ino)
	}
	word := uint64(len(x.Name)) << 56
	for k := range len(x.Name) {
		word += uint64(x.Name[k]) << (8 * k)
	}
	return word
}

// over puts words in their places.
func over(words []uint64, l map[int]uint64) []uint64 {
	all := slices.Clone(words)
	for at, w := range l {
		all[at] = w
	}
	return all
}

// emptied puts noughts in the words of blocks.
func emptied(words []uint64, blocks []int) []uint64 {
	l := slices.Clone(words)
	for _, b := range blocks {
		clear(l[1080+8*b : 1080+8*b+8])
	}
	return l
}

// right is the chapter's sentence anew.
func right(n api.Inode) bool {
	if n.Format != 1 && n.Format != 2 || n.Links < 0 || n.Links > 65535 {
		return false
	}
	if n.Kind == 2 {
		for k, x := range n.Entries {
			if !good(x.Name) || x.Ino < 0 || x.Ino > 31 || k > 0 && n.Entries[k-1].Name >= x.Name {
				return false
			}
		}
		return len(n.Entries) <= 24 && n.Size == len(n.Entries) && n.Blocks == numbers{}
	}
	for k, b := range n.Blocks {
		if b < 0 || b > 255 || 64*k >= n.Size && b != 0 || b != 0 && slices.Contains(n.Blocks[:k], b) {
			return false
		}
	}
	return n.Kind == 1 && n.Size >= 0 && n.Size <= 832 && len(n.Entries) == 0
}

// good is the sentence of the names' chapter anew.
func good(name string) bool {
	bad := func(c rune) bool { return c < '!' || c > '~' || c == '/' }
	return len(name) >= 1 && len(name) <= 7 && !strings.ContainsFunc(name, bad) && name != "." && name != ".."
}

// guess tells what the words of an inode look like, asking nothing that a look at what would be laid asks anyway.
func guess(words []uint64, i int) (api.Inode, []int, bool) {
	w := words[824+8*i : 824+8*i+8]
	n := api.Inode{Format: int(w[0] % 256), Kind: int(w[0] / 256 % 256), Links: int(w[0] / 65536 % 65536), Size: int(w[1] % (1 << 40))}
	all := slices.Clone(w[2:7])
	if w[7] > 0 && w[7] < 256 {
		all = append(all, words[1080+8*w[7]:1080+8*w[7]+8]...)
	}
	var own []int
	for k, b := range all {
		if b > 255 {
			return n, nil, false
		}
		if n.Kind == 1 {
			n.Blocks[k] = int(b)
		} else if b != 0 {
			own = append(own, int(b))
			n.Entries = append(n.Entries, guessEntries(words[1080+8*b:1080+8*b+8])...)
		}
	}
	if w[7] > 0 && w[7] < 256 {
		own = append(own, int(w[7]))
	}
	return n, own, true
}

// guessEntries are those of which a word isn't 0; the names are as long as their words say, if they can be.
func guessEntries(w []uint64) []api.Entry {
	var l []api.Entry
	for k := range 4 {
		if w[2*k] == 0 && w[2*k+1] == 0 {
			continue
		}
		var name []byte
		for at := range min(7, w[2*k]>>56) {
			name = append(name, byte(w[2*k]>>(8*at)))
		}
		l = append(l, api.Entry{Name: string(name), Ino: int(w[2*k+1] % (1 << 40))})
	}
	return l
}

// blocksOf is how many blocks of its own an inode has that is right.
func blocksOf(n api.Inode) int {
	blocks := (len(n.Entries) + 3) / 4
	if blocks > 5 {
		blocks++
	}
	if slices.ContainsFunc(n.Blocks[5:], func(b int) bool { return b != 0 }) {
		blocks++
	}
	return blocks
}

// askModel holds Read against what it is that would be laid so; it answers whether there is an inode.
func askModel(t *testing.T, what string, s *tx.Sheet, i int) bool {
	t.Helper()
	words := s.Words()
	n, own, ok := guess(words, i)
	if !ok || !right(n) || n.Format != 1 || blocksOf(n) != len(own) {
		wantNone(t, what, s, i)
		return false
	}
	for at, w := range laid(i, n, own) {
		if words[at] != w {
			wantNone(t, what, s, i)
			return false
		}
	}
	wantRead(t, what, s, i, n, own)
	return true
}

// dice is a fixed row of numbers, so that each run asks the same.
type dice uint64

func (d *dice) roll() uint64 {
	*d = *d*6364136223846793005 + 1442695040888963407
	w := uint64(*d)
	return w ^ w>>29
}

func (d *dice) upTo(n int) int {
	return int(d.roll() >> 33 % uint64(n))
}

// file rolls a right one, some of whose blocks are holes.
func (d *dice) file() api.Inode {
	n := file(d.upTo(833))
	n.Links = d.upTo(65536)
	holes := 1 + d.upTo(4)
	for k := range n.Blocks {
		b := 100 + d.upTo(156)
		if 64*k < n.Size && d.upTo(holes) == 0 && !slices.Contains(n.Blocks[:], b) {
			n.Blocks[k] = b
		}
	}
	return n
}

// dir rolls a right one, with names from among all.
func (d *dice) dir() api.Inode {
	n := dir(0)
	n.Links = d.upTo(65536)
	left := d.upTo(25)
	for k, name := range names {
		if left > 0 && d.upTo(len(names)-k) < left {
			n.Entries = append(n.Entries, api.Entry{Name: name, Ino: d.upTo(32)})
			left--
		}
	}
	n.Size = len(n.Entries)
	return n
}

func (d *dice) inode() api.Inode {
	if d.upTo(2) == 0 {
		return d.file()
	}
	return d.dir()
}

// P6.2, P6.3: right inodes, laid one over the other on sheets of all kinds, and read.
func TestAgainstModel(t *testing.T) {
	d := dice(6)
	for range 120 {
		used := butFree()
		for b := range used {
			if d.upTo(3) == 0 {
				used[b] = 0
			}
		}
		s := tx.New(using(used...))
		for range 20 {
			layOne(t, &d, s)
		}
	}
}

// layOne lays an inode, and asks for all words, and for what is read.
func layOne(t *testing.T, d *dice, s *tx.Sheet) {
	n, i := d.inode(), d.upTo(32)
	words := s.Words()
	var own []int
	for b := 1; b < 256 && len(own) < blocksOf(n); b++ {
		if words[816+b/64]>>(b%64)%2 == 0 {
			own = append(own, b)
			words[816+b/64] |= 1 << (b % 64)
		}
	}
	if len(own) < blocksOf(n) {
		wantUntouched(t, "no room", s, func() { wantLay(t, "no room", s, i, n, api.ErrSpace) })
		return
	}
	wantRight(t, "rolled", n, true)
	wantLay(t, "rolled", s, i, n, api.OK)
	wantSheet(t, "rolled", s, over(emptied(words, own), laid(i, n, own)))
	wantRead(t, "rolled", s, i, n, own)
}

// P6.1: inodes with a field or two otherwise, against the sentence anew.
func TestRightAgainstModel(t *testing.T) {
	d := dice(61)
	rights := 0
	for range 20000 {
		n := d.inode()
		for range 1 + d.upTo(2) {
			spoil(&d, &n)
		}
		if right(n) {
			rights++
		}
		wantRight(t, "spoilt", n, right(n))
	}
	if rights < 2000 || rights > 18000 {
		t.Error("so many are right:", rights)
	}
}

// spoil alters something of an inode, that may leave it right or not.
func spoil(d *dice, n *api.Inode) {
	edge := []int{-1, 0, 1, 2, 3, 31, 32, 64, 255, 256, 832, 833, 65535, 65536}
	x := edge[d.upTo(len(edge))]
	switch d.upTo(8) {
	case 0:
		n.Format = x
	case 1:
		n.Kind = x
	case 2:
		n.Links = x
	case 3:
		n.Size = x
	case 4:
		n.Blocks[d.upTo(13)] = x
	case 5:
		n.Blocks[d.upTo(13)] = n.Blocks[d.upTo(13)]
	case 6:
		if len(n.Entries) > 0 {
			n.Entries[d.upTo(len(n.Entries))].Ino = x
		}
	default:
		if len(n.Entries) > 0 {
			n.Entries[d.upTo(len(n.Entries))].Name = append(names, "", ".", "..")[d.upTo(len(names)+3)]
		}
	}
}

// P6.2: whatever words there are, what is read is just what would be laid so.
func TestReadOfAnyWords(t *testing.T) {
	d := dice(62)
	seen := 0
	for range 20000 {
		s := tx.New(nil)
		n := d.inode()
		fmt1.Lay(s, 3, n)
		_, own, _ := fmt1.Read(s, 3)
		for range d.upTo(3) {
			at := tx.Inode(3) + d.upTo(8)
			if len(own) > 0 && d.upTo(2) == 0 {
				at = tx.Block(own[d.upTo(len(own))]) + d.upTo(8)
			}
			switch d.upTo(4) {
			case 0:
				s.Put(at, d.roll())
			case 1:
				s.Put(at, uint64(d.upTo(300)))
			case 2:
				s.Put(at, s.Get(at)^1<<d.upTo(64))
			default:
				s.Put(at, s.Get(tx.Inode(3)+d.upTo(8)))
			}
		}
		if askModel(t, "any words", s, 3) {
			seen++
		}
	}
	if seen < 4000 || seen > 16000 {
		t.Error("so many are inodes:", seen)
	}
}
