// Package row is what both formats share: the words of an inode or a block as one row, an inode's first two words, and an entry's.
package row

import (
	"imago/api"
	"imago/pack"
	"imago/tx"
)

// Row is what an inode has of words, and a block too.
type Row = [api.BlockWords]uint64

// First is where a format's own words of an inode begin: the tag and the size stand ahead of them.
const First = sizeWord + 1

// MaxLinks is what a tag has room for.
const MaxLinks = 1<<16 - 1

// EntryWords is what an entry takes: its name's word, and its inode.
const EntryWords = 2

const (
	tagWord  = 0
	sizeWord = 1
)

// Where a tag's parts begin, and what the first two of them can be at most; the links have all that is above.
const (
	kindShift  = 8
	linksShift = 16
	byteMask   = 1<<8 - 1
)

// At reads the row that begins at a place.
func At(s *tx.Sheet, at int) Row {
	var w Row
	for k := range w {
		w[k] = s.Get(at + k)
	}
	return w
}

// Put lays a row over a place.
func Put(s *tx.Sheet, at int, w Row) {
	for k, x := range w {
		s.Put(at+k, x)
	}
}

// Head is the row of an inode of which only the tag and the size are written.
func Head(n api.Inode) Row {
	var w Row
	w[tagWord] = uint64(n.Format) | uint64(n.Kind)<<kindShift | uint64(n.Links)<<linksShift
	w[sizeWord] = uint64(n.Size)
	return w
}

// Headed is an inode with what its tag and its size tell; a tag's upper bits are passed over.
func Headed(w Row) api.Inode {
	tag := w[tagWord]
	return api.Inode{
		Format: int(tag & byteMask),
		Kind:   int(tag >> kindShift & byteMask),
		Links:  int(tag >> linksShift & MaxLinks),
		Size:   int(w[sizeWord]),
	}
}

// Entries are the words of entries whose names are good, one entry behind the other.
func Entries(l []api.Entry) []uint64 {
	words := make([]uint64, 0, EntryWords*len(l))
	for _, x := range l {
		name, _ := pack.Word(x.Name)
		words = append(words, name, uint64(x.Ino))
	}
	return words
}

// EntriesOf reads what Entries wrote; false, if there are other words among them.
func EntriesOf(words []uint64) ([]api.Entry, bool) {
	l := make([]api.Entry, len(words)/EntryWords)
	for k := range l {
		name, ok := pack.Name(words[EntryWords*k])
		ino := words[EntryWords*k+1]
		if !ok || ino >= api.Inodes {
			return nil, false
		}
		l[k] = api.Entry{Name: name, Ino: int(ino)}
	}
	return l, true
}

// Parts tells how many pieces of such a size are begun by so much.
func Parts(much, size int) int {
	return (much + size - 1) / size
}
