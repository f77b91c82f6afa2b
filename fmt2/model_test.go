package fmt2_test

import (
	"encoding/binary"
	"hash/fnv"
	"maps"
	"slices"
	"strings"
	"testing"

	"imago/api"
	"imago/tx"
)

// runsOf is the chapter's sentence anew: of all stretches those that can't be longer.
func runsOf(l numbers) []uint64 {
	var runs []uint64
	for from := range 13 {
		for to := from + 1; to <= 13; to++ {
			longer := from > 0 && follow(l[from-1:to]) || to < 13 && follow(l[from:to+1])
			if follow(l[from:to]) && !longer {
				runs = append(runs, uint64(from)*4294967296+uint64(l[from])*256+uint64(to-from))
			}
		}
	}
	return runs
}

// follow tells whether all are blocks, each one's number one more than that of the one ahead.
func follow(l []int) bool {
	for k, b := range l {
		if b < 1 || b > 255 || k > 0 && b != l[k-1]+1 {
			return false
		}
	}
	return true
}

// entryWord is a name's word.
func entryWord(name string) uint64 {
	word := uint64(len(name)) << 56
	for k := range len(name) {
		word += uint64(name[k]) << (8 * k)
	}
	return word
}

// bucketOf is a name's bucket, by the sum as the library has it.
func bucketOf(name string) int {
	h := fnv.New32a()
	h.Write(binary.LittleEndian.AppendUint64(nil, entryWord(name)))
	return int(h.Sum32() % 4)
}

// perBucket are the entries of each bucket.
func perBucket(n api.Inode) [4][]api.Entry {
	var l [4][]api.Entry
	for k := range l {
		for _, x := range n.Entries {
			if bucketOf(x.Name) == k {
				l[k] = append(l[k], x)
			}
		}
	}
	return l
}

// blocksOf is how many blocks of its own an inode has that is right.
func blocksOf(n api.Inode) int {
	blocks := 0
	for _, l := range perBucket(n) {
		blocks += (len(l) + 2) / 3
	}
	if len(runsOf(n.Blocks)) > 6 {
		blocks++
	}
	return blocks
}

// laid are the words of an inode, by their places, with such blocks of its own: the chapter's words anew, word by word.
func laid(i int, n api.Inode, own []int) map[int]uint64 {
	at := 824 + 8*i
	l := map[int]uint64{at: uint64(n.Format + n.Kind*256 + n.Links*65536), at + 1: uint64(n.Size)}
	for k := 2; k < 8; k++ {
		l[at+k] = 0
	}
	for _, b := range own {
		for k := range 8 {
			l[1080+8*b+k] = 0
		}
	}
	if n.Kind == 2 {
		layBuckets(l, at, n, own)
		return l
	}
	for k, run := range runsOf(n.Blocks) {
		switch {
		case len(own) == 0 || k < 5:
			l[at+2+k] = run
		default:
			l[at+7] = 1<<63 + uint64(own[0])
			l[1080+8*own[0]+k-5] = run
		}
	}
	return l
}

// layBuckets writes each entry by its number in its bucket.
func layBuckets(l map[int]uint64, at int, n api.Inode, own []int) {
	for bucket, entries := range perBucket(n) {
		for k, x := range entries {
			block := 1080 + 8*own[k/3]
			l[block+1+k%3*2] = entryWord(x.Name)
			l[block+2+k%3*2] = uint64(x.Ino)
			if k == 0 {
				l[at+2+bucket] = uint64(own[0])
			} else if k%3 == 0 {
				l[1080+8*own[k/3-1]] = uint64(own[k/3])
			}
		}
		own = own[(len(entries)+2)/3:]
	}
}

// over puts words in their places.
func over(words []uint64, l map[int]uint64) []uint64 {
	all := slices.Clone(words)
	for at, w := range l {
		all[at] = w
	}
	return all
}

// right is the sentence of the old format's chapter anew.
func right(n api.Inode) bool {
	if n.Format != 1 && n.Format != 2 || n.Links < 0 || n.Links > 65535 {
		return false
	}
	if n.Kind == 2 {
		for k, x := range n.Entries {
			if !good(x.Name) || x.Ino < 0 || x.Ino > 31 || k > 0 && n.Entries[k-1].Name >= x.Name {
				return false
			}
		}
		return len(n.Entries) <= 24 && n.Size == len(n.Entries) && n.Blocks == numbers{}
	}
	for k, b := range n.Blocks {
		if b < 0 || b > 255 || 64*k >= n.Size && b != 0 || b != 0 && slices.Contains(n.Blocks[:k], b) {
			return false
		}
	}
	return n.Kind == 1 && n.Size >= 0 && n.Size <= 832 && len(n.Entries) == 0
}

// good is the sentence of the names' chapter anew.
func good(name string) bool {
	bad := func(c rune) bool { return c < '!' || c > '~' || c == '/' }
	return len(name) >= 1 && len(name) <= 7 && !strings.ContainsFunc(name, bad) && name != "." && name != ".."
}

// guess tells what the words of an inode look like, asking nothing that a look at what would be laid asks anyway.
func guess(words []uint64, i int) (api.Inode, []int, bool) {
	w := words[824+8*i : 824+8*i+8]
	n := api.Inode{Format: int(w[0] % 256), Kind: int(w[0] / 256 % 256), Links: int(w[0] / 65536 % 65536), Size: int(w[1] % (1 << 40))}
	var own []int
	if n.Kind == 2 {
		for _, first := range w[2:6] {
			for b := first; b != 0; b = words[1080+8*b] {
				if b > 255 || len(own) > 24 {
					return n, nil, false
				}
				own = append(own, int(b))
				n.Entries = append(n.Entries, guessEntries(words[1080+8*b+1:1080+8*b+7])...)
			}
		}
		slices.SortFunc(n.Entries, func(a, b api.Entry) int { return strings.Compare(a.Name, b.Name) })
		return n, own, true
	}
	runs := slices.Clone(w[2:8])
	if b := w[7] % (1 << 63); w[7] >= 1<<63 && b > 0 && b < 256 {
		runs = append(runs[:5], words[1080+8*b:1080+8*b+8]...)
		own = []int{int(b)}
	}
	for _, run := range runs {
		for k := range run % 256 {
			place := run>>32 + k
			if place > 12 {
				return n, nil, false
			}
			n.Blocks[place] = int(run>>8%(1<<24) + k)
		}
	}
	return n, own, true
}

// guessEntries are those of which a word isn't 0; the names are as long as their words say, if they can be.
func guessEntries(w []uint64) []api.Entry {
	var l []api.Entry
	for k := range 3 {
		if w[2*k] == 0 && w[2*k+1] == 0 {
			continue
		}
		var name []byte
		for at := range min(7, w[2*k]>>56) {
			name = append(name, byte(w[2*k]>>(8*at)))
		}
		l = append(l, api.Entry{Name: string(name), Ino: int(w[2*k+1] % (1 << 40))})
	}
	return l
}

// askModel holds Read against what it is that would be laid so; it answers whether there is an inode.
func askModel(t *testing.T, what string, s *tx.Sheet, i int) bool {
	t.Helper()
	words := s.Words()
	n, own, ok := guess(words, i)
	if !ok || !right(n) || n.Format != 2 || blocksOf(n) != len(own) {
		wantNone(t, what, s, i)
		return false
	}
	for at, w := range laid(i, n, own) {
		if words[at] != w {
			wantNone(t, what, s, i)
			return false
		}
	}
	wantRead(t, what, s, i, n, own)
	return true
}

// dice is a fixed row of numbers, so that each run asks the same.
type dice uint64

func (d *dice) roll() uint64 {
	*d = *d*6364136223846793005 + 1442695040888963407
	w := uint64(*d)
	return w ^ w>>29
}

func (d *dice) upTo(n int) int {
	return int(d.roll() >> 33 % uint64(n))
}

// numbers rolls blocks of which some follow the one ahead, some are holes, and some are elsewhere.
func (d *dice) numbers() numbers {
	var l numbers
	turn := 2 + d.upTo(5)
	for k := range l {
		b := 1 + d.upTo(255)
		if k > 0 && d.upTo(turn) != 0 {
			b = l[k-1] + 1
		}
		if b < 256 && d.upTo(8) != 0 && !slices.Contains(l[:k], b) {
			l[k] = b
		}
	}
	return l
}

// file rolls a right one.
func (d *dice) file() api.Inode {
	n := file(832 - d.upTo(2)*d.upTo(833))
	n.Links = d.upTo(65536)
	n.Blocks = d.numbers()
	clear(n.Blocks[(n.Size+63)/64:])
	return n
}

// dir rolls a right one, of names of all buckets, or of one.
func (d *dice) dir() api.Inode {
	var counts [4]int
	left := d.upTo(25)
	for range left {
		counts[d.upTo(4)]++
	}
	if d.upTo(4) == 0 {
		counts = [4]int{}
		counts[d.upTo(4)] = left
	}
	n := dir(counts[0], counts[1], counts[2], counts[3])
	n.Links = d.upTo(65536)
	for k := range n.Entries {
		n.Entries[k].Ino = d.upTo(32)
	}
	return n
}

func (d *dice) inode() api.Inode {
	if d.upTo(2) == 0 {
		return d.file()
	}
	return d.dir()
}

// P7.1: runs of numbers of all kinds, also of such as are no block's, and stand twice.
func TestRunsAgainstModel(t *testing.T) {
	d := dice(7)
	others := []int{-256, -1, 0, 1, 2, 254, 255, 256, 257, 1 << 32, 1<<32 + 1}
	counts := map[int]int{}
	for range 20000 {
		l := d.numbers()
		for range d.upTo(4) {
			l[d.upTo(13)] = others[d.upTo(len(others))]
		}
		for range d.upTo(2) {
			from, number := d.upTo(13), 245+d.upTo(12)
			for k := from; k < 13; k++ {
				l[k] = number + k - from
			}
		}
		wantRuns(t, "model", l, runsOf(l))
		counts[len(runsOf(l))]++
	}
	if len(counts) < 12 {
		t.Error("so many runs there were:", counts)
	}
}

// P7.1: Need, of inodes of both formats.
func TestNeedAgainstModel(t *testing.T) {
	d := dice(71)
	for range 5000 {
		n := d.inode()
		n.Format = 1 + d.upTo(2)
		wantNeed(t, "model", n, blocksOf(n))
	}
}

// P7.2, P7.3: right inodes, laid one over the other on sheets of all kinds, and read.
func TestAgainstModel(t *testing.T) {
	d := dice(72)
	for range 120 {
		used := butFree()
		for b := range used {
			if d.upTo(3) == 0 {
				used[b] = 0
			}
		}
		s := tx.New(using(used...))
		for range 20 {
			layOne(t, &d, s)
		}
	}
}

// layOne lays an inode, a file's blocks being used, and asks for all words, and for what is read.
func layOne(t *testing.T, d *dice, s *tx.Sheet) {
	n, i := d.inode(), d.upTo(32)
	for _, b := range n.Blocks {
		s.Put(816+b/64, s.Get(816+b/64)|1<<(b%64))
	}
	words := s.Words()
	var own []int
	for b := 1; b < 256 && len(own) < blocksOf(n); b++ {
		if words[816+b/64]>>(b%64)%2 == 0 {
			own = append(own, b)
			words[816+b/64] |= 1 << (b % 64)
		}
	}
	if len(own) < blocksOf(n) {
		wantUntouched(t, "no room", s, func() { wantLay(t, "no room", s, i, n, api.ErrSpace) })
		return
	}
	wantLay(t, "rolled", s, i, n, api.OK)
	wantSheet(t, "rolled", s, over(words, laid(i, n, own)))
	wantRead(t, "rolled", s, i, n, own)
}

// P7.2: whatever words there are, what is read is just what would be laid so.
func TestReadOfAnyWords(t *testing.T) {
	d := dice(73)
	seen := 0
	for range 20000 {
		n := d.inode()
		n.Links = 1
		own := make([]int, blocksOf(n))
		for k := range own {
			own[k] = k + 1
		}
		l := laid(3, n, own)
		places := slices.Sorted(maps.Keys(l))
		s := tx.New(over(noughts(), l))
		for range d.upTo(3) {
			at := places[d.upTo(len(places))]
			switch d.upTo(4) {
			case 0:
				s.Put(at, d.roll())
			case 1:
				s.Put(at, uint64(d.upTo(300)))
			case 2:
				s.Put(at, s.Get(at)^1<<d.upTo(64))
			default:
				s.Put(at, s.Get(places[d.upTo(len(places))]))
			}
		}
		if askModel(t, "any words", s, 3) {
			seen++
		}
	}
	if seen < 4000 || seen > 16000 {
		t.Error("so many are inodes:", seen)
	}
}

// noughts are words that tell nothing.
func noughts() []uint64 {
	return make([]uint64, api.Words)
}
