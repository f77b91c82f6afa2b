package check_test

import (
	"slices"
	"strconv"
	"testing"

	"imago/api"
	"imago/inode"
	"imago/palloc"
	"imago/tree"
	"imago/tx"
)

// dice is a fixed row of numbers, so that each run asks the same.
type dice uint64

func (d *dice) upTo(n int) int {
	*d = *d*6364136223846793005 + 1442695040888963407
	return int(uint64(*d) >> 33 % uint64(n))
}

func (d *dice) shuffled(from, upTo int) []int {
	var l []int
	for i := from; i < upTo; i++ {
		l = append(l, i)
		k := d.upTo(len(l))
		l[k], l[len(l)-1] = l[len(l)-1], l[k]
	}
	return l
}

// format rolls one for each inode.
func (d *dice) format(int) int {
	return formats[d.upTo(2)]
}

// blocks rolls those of a file out of a row, some of them one behind the other, and answers what is left of the row.
func (d *dice) blocks(size int, of []int) ([api.MaxBlocks]int, []int) {
	var l [api.MaxBlocks]int
	if d.upTo(2) == 0 {
		slices.Sort(of)
	}
	for k := range (size + 63) / 64 {
		if d.upTo(4) > 0 && len(of) > 0 {
			l[k], of = of[0], of[1:]
		}
	}
	return l, of
}

// addEntry gives an inode a name in some directory that has room; false, if it finds none.
func (d *dice) addEntry(l map[int]api.Inode, ino int) bool {
	for _, i := range d.shuffled(0, 32) {
		n, ok := l[i]
		if !ok || n.Kind != api.Dir || len(n.Entries) == api.MaxEntries || i == ino {
			continue
		}
		name := "n" + strconv.Itoa(d.upTo(1000000))
		if _, there := tree.Find(n, name); there {
			return false
		}
		l[i] = tree.With(n, api.Entry{Name: name, Ino: ino})
		return true
	}
	return false
}

// forest rolls a sound sheet.
func (d *dice) forest(t *testing.T) *tx.Sheet {
	t.Helper()
	l := map[int]api.Inode{0: dir("")}
	row := d.shuffled(100, 256) // for files; there is room ahead for what formats take
	sizes := []int{0, 1, 63, 64, 65, 320, 321, 768, 769, 831, 832, d.upTo(833), d.upTo(833)}
	dirs := 2 + d.upTo(5)
	for _, i := range d.shuffled(1, 32)[:d.upTo(32)] {
		if !d.addEntry(l, i) {
			continue
		}
		if d.upTo(dirs) == 0 {
			l[i] = dir("")
			continue
		}
		n := file(1, sizes[d.upTo(len(sizes))])
		n.Blocks, row = d.blocks(n.Size, row)
		for d.upTo(4) == 0 && d.addEntry(l, i) {
			n.Links++
		}
		l[i] = n
	}
	s := ground()
	s.Put(1, uint64(1+d.upTo(2)))
	s.Put(2, uint64(d.upTo(33)))
	plant(t, s, d.format, l)
	return s
}

// bend does something to a sheet that may let a point not be so.
func (d *dice) bend(s *tx.Sheet) {
	i, j := d.upTo(32), d.upTo(32)
	if d.upTo(3) == 0 {
		i = 0
	}
	n, _, e := inode.Get(s, i)
	switch d.upTo(13) {
	case 0:
		palloc.Set(s, d.upTo(256), d.upTo(2) == 0)
	case 1:
		at := []int{0, 1, 2, 3, 4, 5, 6, 7, 816, 817, 818, 819, 820, 821, 822, 823}[d.upTo(16)]
		s.Put(at, s.Get(at)^1<<d.upTo(64))
	case 2: // a bit of an inode, or the lower ones of its words
		at := tx.Inode(i) + d.upTo(8)
		s.Put(at, s.Get(at)^1<<d.upTo([]int{64, 20}[d.upTo(2)]))
	case 3:
		free(s, i)
	case 4: // the words of one in another's place, and perhaps the other way, too
		both := d.upTo(2) == 0
		for k := range 8 {
			was := s.Get(tx.Inode(i) + k)
			s.Put(tx.Inode(i)+k, s.Get(tx.Inode(j)+k))
			if both {
				s.Put(tx.Inode(j)+k, was)
			}
		}
	case 5: // a bit of a block that an inode has
		if l := inode.All(s, i); len(l) > 0 {
			at := tx.Block(l[d.upTo(len(l))]) + d.upTo(8)
			s.Put(at, s.Get(at)^1<<d.upTo(64))
		}
	case 6:
		cutOff(s, j, i)
	default:
		if e == api.OK {
			d.bendInode(s, i, j, n)
		}
	}
}

// cutOff moves the entries of a directory into itself, or into another one that is below.
func cutOff(s *tx.Sheet, i, below int) {
	if !tree.Below(s, i, below) {
		below = i
	}
	for p := range 32 {
		n, _, _ := inode.Get(s, p)
		for _, x := range n.Entries {
			if to, _, _ := inode.Get(s, below); x.Ino == i && to.Kind == api.Dir {
				inode.Put(s, p, tree.Without(n, x.Name))
				inode.Put(s, below, tree.With(to, x))
				return
			}
		}
	}
}

// bendInode puts an inode that can be got, but otherwise than it was.
func (d *dice) bendInode(s *tx.Sheet, i, j int, n api.Inode) {
	switch k := d.upTo(6); {
	case k == 0:
		n.Links = max(0, n.Links+d.upTo(3)-1)
	case k == 1:
		n.Format = d.format(i)
	case n.Kind == api.Dir && k == 2 && len(n.Entries) > 0:
		n = tree.Without(n, n.Entries[d.upTo(len(n.Entries))].Name)
	case n.Kind == api.Dir && len(n.Entries) < api.MaxEntries:
		n = tree.With(n, api.Entry{Name: "m" + strconv.Itoa(d.upTo(1000)), Ino: j})
	case n.Size > 0 && k == 2:
		n.Size--
	case n.Size > 0 && k < 5:
		place := d.upTo((n.Size + 63) / 64)
		if b := d.upTo(256); !slices.Contains(n.Blocks[:], b) {
			n.Blocks[place] = b
		}
	}
	inode.Put(s, i, n)
}

// askAll holds all that is told of a sheet against what the test knows; it answers the point that is told.
func askAll(t *testing.T, what string, s *tx.Sheet) int {
	t.Helper()
	l := wrongs(s)
	wantTold(t, what, s, first(l))
	var want [32]int
	for i := range want {
		n, _, _ := inode.Get(s, i)
		for _, x := range n.Entries {
			want[x.Ino]++
		}
	}
	wantEntries(t, what, s, want)
	return first(l)
}

// P10.1, P10.2: any forests are sound; bent in some ways they tell the first point that isn't so.
func TestAgainstModel(t *testing.T) {
	var told [8]int
	for seed := range 400 {
		d := dice(seed)
		s := d.forest(t)
		if askAll(t, "a forest", s) != 0 {
			t.Errorf("the forest %d isn't sound", seed)
		}
		b := d.upTo(256)
		s.Put(816+b/64, s.Get(816+b/64)^1<<(b%64))
		wantTold(t, "one bit of the bits", s, 6)
		s.Put(816+b/64, s.Get(816+b/64)^1<<(b%64))
		for range 20 {
			mark := s.Mark()
			for range 1 + d.upTo(3) {
				d.bend(s)
			}
			told[askAll(t, "bent", s)]++
			s.Back(mark)
		}
		if t.Failed() {
			t.Fatalf("forest %d", seed)
		}
	}
	for point, count := range told {
		if count < 40 {
			t.Errorf("%d was told %d times only", point, count)
		}
	}
}

// P10.1: each bit of the inodes and of all their blocks turned about.
func TestEachBit(t *testing.T) {
	for _, mix := range []string{"old", "new"} {
		s := ground()
		plant(t, s, mixes[mix], map[int]api.Inode{
			0: dir("a1 b2 c3 d2"), 1: dir("e31"), 2: file(2, 70, 9, 8), 3: dir(""),
			31: file(1, 800, 100, 102, 104, 0, 106, 108, 109, 112, 114, 0, 0, 118),
		})
		var places []int
		for i := range 32 {
			for k := range 8 {
				places = append(places, tx.Inode(i)+k)
			}
			for _, b := range inode.All(s, i) {
				for k := range 8 {
					places = append(places, tx.Block(b)+k)
				}
			}
		}
		for _, at := range places {
			for bit := range 64 {
				was := s.Get(at)
				s.Put(at, was^1<<bit)
				askAll(t, mix+", a bit of "+strconv.Itoa(at), s)
				s.Put(at, was)
			}
		}
	}
}
