package vfs_test

import (
	"math"
	"slices"
	"strings"
	"testing"

	"imago/api"
	"imago/inode"
	"imago/vfs"
)

const most = 832

// ends are numbers near the ends of a file, and of all numbers.
var ends = []int{
	math.MinInt, math.MinInt + 1, -1 << 32, -833, -832, -1, 0, 1, 4, 5, 6, 63, 64, 65, 767, 768, 769, 831, 832, 833, 1000,
	1<<32 - 1, 1 << 32, 1<<32 + 5, math.MaxInt - 832, math.MaxInt - 1, math.MaxInt,
}

// longErrors is what a write, or another length, should be told, by where it ends.
func longErrors(from, behind int) api.Errno {
	switch {
	case from < 0:
		return api.ErrArg
	case from > most || behind > most:
		return api.ErrLong
	}
	return api.OK
}

// P12.2: the errors of what asks of a file's bytes, in their order.
func TestFileErrors(t *testing.T) {
	var l []told
	for kind := 2; kind < 5; kind++ {
		for p, e := range map[string]api.Errno{
			"": api.ErrIsDir, "d": api.ErrIsDir, "g": api.ErrIsDir, "full": api.ErrIsDir, "nil": api.ErrNoEnt, "d/nil": api.ErrNoEnt, "nil/x": api.ErrNoEnt, "a/x": api.ErrNotDir, "d/b/x": api.ErrNotDir,
		} {
			l = append(l, told{vfs.Op{Kind: kind, Path: path(p)}, e}, told{vfs.Op{Kind: kind, Path: path(p), Off: -1, N: -1, Data: []byte(text(900))}, e})
			l = append(l, told{vfs.Op{Kind: kind, Path: path(p), Off: 900, N: 900}, e})
		}
	}
	for _, off := range ends {
		for _, n := range []int{0, 1, 5, 64, 831, 832, 833, 5000} {
			e := longErrors(off, min(off, 1000)+n)
			l = append(l, told{vfs.Op{Kind: 2, Path: path("a"), Off: off, N: -1, Data: []byte(text(n))}, e})
		}
		l = append(l, told{vfs.Op{Kind: 4, Path: path("h"), Off: -1, N: off}, longErrors(off, off)})
	}
	asks(t, l)
}

// P12.2: reads at all ends tell what there is of these bytes up to the size, and N tells nothing.
func TestRead(t *testing.T) {
	for _, format := range formats {
		r := newRig(t, format)
		r.are(mk("a"), mk("b"), write("b", 0, "hello"), mk("c"), write("c", 0, text(most)), mk("h"), write("h", 70, text(80)), size("h", 300))
		for p, data := range map[string]string{"a": "", "b": "hello", "c": text(most), "h": strings.Repeat("\x00", 70) + text(80) + strings.Repeat("\x00", 150)} {
			for _, off := range ends {
				for _, n := range ends {
					want := vfs.Result{E: api.ErrArg}
					if off >= 0 && n >= 0 {
						there := data[min(off, len(data)):]
						want = vfs.Result{Data: []byte(there[:min(n, len(there))])}
					}
					if got := r.f.Do(read(p, off, n)); !alike(got, want) {
						t.Errorf("%s from %d on, %d: %v, want %v", p, off, n, got, want)
					}
				}
			}
		}
		r.wantState("read")
	}
}

// P12.2: writes tell how many bytes, and these are there then; of no bytes nothing is altered.
func TestWrite(t *testing.T) {
	for _, format := range formats {
		r := newRig(t, format)
		r.are(mk("a"))
		for _, off := range []int{0, 1, 500, most} {
			r.tells(write("a", off, ""), vfs.Result{})
			r.tells(stat("a"), vfs.Result{Kind: api.File, Links: 1, Ino: 1})
		}
		r.is(write("a", most+1, ""), api.ErrLong)
		r.is(write("a", -1, ""), api.ErrArg)
		r.tells(write("a", 0, "hello"), vfs.Result{N: 5})
		r.tells(write("a", 3, "p me"), vfs.Result{N: 4})
		r.tells(read("a", 0, 99), vfs.Result{Data: []byte("help me")})
		r.tells(write("a", 1, "E"), vfs.Result{N: 1})
		r.tells(write("a", 100, "far"), vfs.Result{N: 3})
		r.tells(read("a", 0, 200), vfs.Result{Data: []byte("hElp me" + strings.Repeat("\x00", 93) + "far")})
		r.tells(write("a", most-1, "z"), vfs.Result{N: 1})
		r.is(write("a", most, "z"), api.ErrLong)
		r.is(write("a", most-1, "zz"), api.ErrLong)
		r.tells(stat("a"), vfs.Result{N: most, Kind: api.File, Links: 1, Ino: 1})
		r.tells(write("a", 0, text(most)), vfs.Result{N: most})
		r.is(write("a", 0, text(most+1)), api.ErrLong)
		r.tells(read("a", 0, most), vfs.Result{Data: []byte(text(most))})
		r.tells(write("a", 700, ""), vfs.Result{})
		r.tells(read("a", 60, 10), vfs.Result{Data: []byte(text(most)[60:70])})
	}
}

// P12.2: from each byte on, over each end of a block.
func TestWriteEverywhere(t *testing.T) {
	for _, format := range formats {
		r := newRig(t, format)
		r.are(mk("a"), mk("b"), write("b", 0, text(most)))
		for off := 0; off < most; off += 7 {
			n := min(1+off%150, most-off)
			c := r.copied()
			for _, p := range []string{"a", "b"} {
				c.are(write(p, off, strings.Repeat("#", n)))
			}
			got := c.do(read("b", 0, most))
			if want := text(off) + strings.Repeat("#", n) + text(most)[off+n:]; string(got.Data) != want {
				t.Fatalf("%d from %d on: %q", n, off, got.Data)
			}
			c.tells(read("a", 0, most), vfs.Result{Data: []byte(strings.Repeat("\x00", off) + strings.Repeat("#", n))})
		}
	}
}

// blocks are a file's blocks.
func (r *rig) blocks(i int) []int {
	n, _, _ := inode.Get(r.f.Sheet(), i)
	return n.Blocks[:]
}

// wantBlocks asks for a file's blocks, as they are counted from one on; -1 is a hole, as are all others.
func (r *rig) wantBlocks(i, from int, want ...int) {
	r.t.Helper()
	var l [13]int
	for k, b := range want {
		if b >= 0 {
			l[k] = from + b
		}
	}
	if got := r.blocks(i); !slices.Equal(got, l[:]) {
		r.t.Errorf("the inode %d has the blocks %v, want %v", i, got, l)
	}
}

// P12.2: a write gives blocks for its bytes where there are none, the lowest first, and for no others.
func TestWriteBlocks(t *testing.T) {
	for _, format := range formats {
		r := newRig(t, format)
		r.are(mk("a"), mk("b"))
		free := r.free()
		from := 256 - free // ahead of that are the root's
		r.are(write("b", 0, text(128)))
		r.wantBlocks(2, from, 0, 1)
		r.are(write("a", 130, text(100)))
		r.wantBlocks(1, from, -1, -1, 2, 3)
		r.are(size("b", 3), write("b", 200, "x"), write("a", 63, text(2)))
		r.wantBlocks(2, from, 0, -1, -1, 1)
		r.wantBlocks(1, from, 4, 5, 2, 3)
		r.are(write("a", 0, text(200)), size("a", 600))
		r.wantBlocks(1, from, 4, 5, 2, 3)
		r.are(size("b", 0), write("a", 300, text(1)), write("b", 0, text(320)))
		r.wantBlocks(1, from, 4, 5, 2, 3, 0)
		r.wantBlocks(2, from, 1, 6, 7, 8, 9)
		if r.free() != free-10 {
			t.Errorf("%d blocks are free, %d were", r.free(), free)
		}
	}
}

// P12.2: a file is made longer, shorter, as long as it is; what was cut off doesn't come up again.
func TestSize(t *testing.T) {
	for _, format := range formats {
		r := newRig(t, format)
		r.are(mk("a"), write("a", 0, text(most)))
		for n := most; n >= 0; n -= 13 {
			c := r.copied()
			c.tells(size("a", n), vfs.Result{})
			c.tells(read("a", 0, most), vfs.Result{Data: []byte(text(n))})
			if l := c.blocks(1); slices.Contains(l[:(n+63)/64], 0) || slices.Max(append(l[(n+63)/64:], 0)) > 0 {
				t.Errorf("cut at %d it has the blocks %v", n, l)
			}
			free := c.free()
			c.tells(size("a", most), vfs.Result{})
			c.tells(read("a", 0, most), vfs.Result{Data: append([]byte(text(n)), make([]byte, most-n)...)})
			if c.free() != free {
				t.Errorf("longer by holes it takes %d blocks", free-c.free())
			}
			c.are(size("a", n), write("a", 600, "x"))
			r.tells(size("a", most), vfs.Result{})
		}
		for _, n := range []int{most, 1, 0, 0, 64, 65, 63, most - 1, 5} {
			r.are(size("a", n))
			r.tells(stat("a"), vfs.Result{N: n, Kind: api.File, Links: 1, Ino: 1})
		}
		r.is(size("a", most+1), api.ErrLong)
		r.is(size("a", -1), api.ErrArg)
		r.are(size("a", 0))
		if r.free() != 254 {
			t.Errorf("cut to nothing, %d blocks are free", r.free())
		}
	}
}

// P12.2: a cut in the midst of a block lets its bytes behind be 0, those of a hole too, and all others stay.
func TestCutInBlock(t *testing.T) {
	for _, format := range formats {
		for n := range 130 {
			r := newRig(t, format)
			r.are(mk("a"), write("a", 0, text(64)), write("a", 128, text(64)))
			r.are(size("a", n), size("a", 192))
			was := []byte(text(64) + strings.Repeat("\x00", 64) + text(64))
			clear(was[n:])
			r.tells(read("a", 0, 999), vfs.Result{Data: was})
		}
	}
}

// P12.2: bytes that nobody wrote are 0, and the words of the block 0 are nobody's, whatever words stand in blocks that aren't used.
func TestAnyWordsBeneath(t *testing.T) {
	for what, r := range towns(t) {
		words := r.f.Sheet().Words()
		for at := 1080; at < 3128; at++ {
			if b := (at - 1080) / 8; words[816+b/64]>>(b%64)&1 == 0 {
				words[at] = math.MaxUint64
			}
		}
		c := on(t, words)
		c.wantState(what)
		c.are(size("d/b", 300), write("d/b", 70, "x"), write("a", 400, "x"), size("a", most), mk("d/c"), write("d/c", 1, "x"), size("d/c", 200))
		c.are(mkdir("d/d"), mk("d/d/f"), size("d/d/f", most), write("h", 70, "x"), size("h", 71), size("h", most))
		c.tells(read("d/b", 0, most), vfs.Result{Data: []byte(strings.Repeat("\x00", 70) + "x" + strings.Repeat("\x00", 229))})
		c.tells(read("d/d/f", 0, most), vfs.Result{Data: make([]byte, most)})
		if got := asked(t, c.f); got != c.w {
			t.Errorf("%s: the ops tell %v, want %v", what, got, c.w)
		}
		if got := c.f.Sheet().Words()[1080:1088]; slices.Min(got) != math.MaxUint64 {
			t.Errorf("%s: the block 0 has the words %x", what, got)
		}
	}
}

// P12.2: what is handed in isn't kept, and what is answered is new.
func TestNothingShared(t *testing.T) {
	r := town(t, api.Old)
	data, p := []byte("mine"), []string{"d", "own"}
	r.are(vfs.Op{Kind: 0, Path: p})
	if got := r.f.Do(vfs.Op{Kind: 2, Path: p, Data: data}); got.N != 4 {
		t.Fatal(got)
	}
	copy(data, "YOUR")
	for range 2 {
		got := r.f.Do(vfs.Op{Kind: 3, Path: p, N: 9})
		if string(got.Data) != "mine" {
			t.Fatalf("%q", got.Data)
		}
		got.Data[0] = 'X'
	}
	p[1] = "other"
	for range 2 {
		got := r.f.Do(ls("d"))
		if len(got.Entries) != 3 || got.Entries[2] != (api.Entry{Name: "own", Ino: 10}) {
			t.Fatal(got)
		}
		clear(got.Entries)
	}
}
