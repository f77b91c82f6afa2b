package inode_test

import (
	"slices"
	"testing"

	"imago/api"
	"imago/inode"
	"imago/tx"
)

// dice is a fixed row of numbers, so that each run asks the same.
type dice uint64

func (d *dice) upTo(n int) int {
	*d = *d*6364136223846793005 + 1442695040888963407
	return int(uint64(*d) >> 33 % uint64(n))
}

// blocks rolls some of such, or holes, of which some follow one another.
func (d *dice) blocks(of []int) [api.MaxBlocks]int {
	var l [api.MaxBlocks]int
	next := 0
	for k := range l {
		if d.upTo(3) == 0 {
			next = d.upTo(len(of) + 1)
		}
		if d.upTo(5) != 0 && next < len(of) && !slices.Contains(l[:k], of[next]) {
			l[k] = of[next]
		}
		next++
	}
	return l
}

// inode rolls a right one, a file's blocks being of such.
func (d *dice) inode(of []int) api.Inode {
	n := file(832 - d.upTo(2)*d.upTo(833))
	n.Blocks = d.blocks(of)
	clear(n.Blocks[(n.Size+63)/64:])
	if d.upTo(2) == 0 {
		left := d.upTo(25)
		bucket := d.upTo(left + 1)
		n = spread(bucket, 0, (left-bucket)/2, left-bucket-(left-bucket)/2)
	}
	n.Links = d.upTo(65536)
	return in(formats[d.upTo(2)], n)
}

// slot is what the model knows of an inode: nothing, where it is free.
type slot struct {
	held    bool
	corrupt bool
	n       api.Inode
	own     []int
}

// model goes through a row of deeds by what it noted of each inode, and asks for all words behind each.
type model struct {
	t     *testing.T
	d     dice
	s     *tx.Sheet
	slots [32]slot
	seen  map[string]int
}

// firstFree is the inode that New should give out; 32, if none is free.
func (m *model) firstFree() int {
	for i, x := range m.slots {
		if !x.held && !x.corrupt {
			return i
		}
	}
	return 32
}

// lay puts an inode at a place, or as a new one, and tells how it should have ended.
func (m *model) lay(i int, n api.Inode, put func() api.Errno) {
	words := m.s.Words()
	want, own, room := behindPut(words, m.slots[i].own, i, n)
	switch {
	case m.slots[i].corrupt:
		m.ends("corrupt", words, put(), api.ErrCorrupt)
	case !room:
		m.ends("no room", words, put(), api.ErrSpace)
	default:
		m.ends("room", want, put(), api.OK)
		m.slots[i] = slot{held: true, n: n, own: own}
	}
}

func (m *model) ends(what string, words []uint64, got, want api.Errno) {
	m.t.Helper()
	m.seen[what]++
	if got != want {
		m.t.Errorf("%s: %v, want %v", what, got, want)
	}
	wantSheet(m.t, what, m.s, words)
}

func (m *model) put() {
	i, n := m.d.upTo(32), m.fresh()
	m.lay(i, n, func() api.Errno { return inode.Put(m.s, i, n) })
}

// fresh rolls an inode, and lets a file's blocks be used.
func (m *model) fresh() api.Inode {
	n := m.d.inode(freeBlocks(m.s.Words()))
	use(m.s, n.Blocks[:]...)
	return n
}

// again puts what is there over itself, or turns it.
func (m *model) again() {
	i := m.d.upTo(32)
	if n := in(formats[m.d.upTo(2)], m.slots[i].n); m.slots[i].held {
		m.lay(i, n, func() api.Errno { return inode.Put(m.s, i, n) })
	}
}

func (m *model) new() {
	i, n := m.firstFree(), m.fresh()
	if i == 32 {
		words := m.s.Words()
		_, e := inode.New(m.s, n)
		m.ends("none is free", words, e, api.ErrSpace)
		return
	}
	m.lay(i, n, func() api.Errno {
		got, e := inode.New(m.s, n)
		if want := i; got != want && e == api.OK || got != 0 && e != api.OK {
			m.t.Errorf("new: %d, %v, want %d", got, e, want)
		}
		return e
	})
}

func (m *model) drop() {
	i := m.d.upTo(32)
	x := m.slots[i]
	words := m.s.Words()
	switch {
	case x.corrupt:
		m.ends("drop of none", words, inode.Drop(m.s, i), api.ErrCorrupt)
	case !x.held:
		m.ends("drop of a free one", words, inode.Drop(m.s, i), api.ErrNoEnt)
	default:
		bit0 := words[816] & 1 // holes are no blocks
		words = given(words, slices.Concat(x.own, x.n.Blocks[:]))
		words[816] |= bit0
		clear(words[824+8*i : 832+8*i])
		m.ends("drop", words, inode.Drop(m.s, i), api.OK)
		m.slots[i] = slot{}
	}
}

// bend spoils one that is free, or mends one that is spoilt.
func (m *model) bend() {
	i := m.d.upTo(32)
	at := tx.Inode(i) + m.d.upTo(8)
	switch x := m.slots[i]; {
	case x.corrupt:
		for k := range 8 {
			m.s.Put(tx.Inode(i)+k, 0)
		}
		m.slots[i].corrupt = false
	case !x.held && m.d.upTo(3) == 0:
		m.s.Put(at, 3+256*uint64(m.d.upTo(100)))
		m.slots[i].corrupt = true
	}
}

// fillOrEmpty lets few blocks be free, or gives back all that no inode has.
func (m *model) fillOrEmpty() {
	free := freeBlocks(m.s.Words())
	if m.d.upTo(2) == 0 && len(free) > 3 {
		fill(m.s, m.d.upTo(4))
		return
	}
	for k := range 4 {
		m.s.Put(816+k, 0)
	}
	for _, x := range m.slots {
		use(m.s, slices.Concat(x.own, x.n.Blocks[:])...)
	}
}

// ask asks for what is told of all inodes.
func (m *model) ask() {
	for i, x := range m.slots {
		wantFree(m.t, "model", m.s, i, !x.held && !x.corrupt)
		switch {
		case x.corrupt:
			wantNothing(m.t, "model", m.s, i, api.ErrCorrupt)
			wantAll(m.t, "model", m.s, i, nil)
		case !x.held:
			wantNothing(m.t, "model", m.s, i, api.ErrNoEnt)
			wantAll(m.t, "model", m.s, i, nil)
		default:
			wantGet(m.t, "model", m.s, i, x.n, x.own)
			wantAll(m.t, "model", m.s, i, slices.DeleteFunc(slices.Concat(x.own, x.n.Blocks[:]), func(b int) bool { return b == 0 }))
		}
	}
}

// P8.1 to P8.3: long rows of deeds, with room and without: what is put is got, and each word is as it should be.
func TestAgainstModel(t *testing.T) {
	seen := map[string]int{}
	for seed := range 24 {
		m := &model{t: t, d: dice(seed), s: tx.New(sheetOf().Words()), seen: seen}
		deeds := []func(){m.put, m.put, m.again, m.again, m.new, m.new, m.drop, m.bend, m.fillOrEmpty}
		for range 400 {
			deeds[m.d.upTo(len(deeds))]()
			m.ask()
			if t.Failed() {
				t.Fatalf("row %d", seed)
			}
		}
	}
	for _, what := range []string{"corrupt", "no room", "room", "none is free", "drop", "drop of none", "drop of a free one"} {
		if seen[what] < 20 {
			t.Errorf("%s was seen %d times only", what, seen[what])
		}
	}
}
