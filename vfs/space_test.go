package vfs_test

import (
	"strconv"
	"testing"

	"imago/api"
	"imago/pack"
	"imago/palloc"
	"imago/vfs"
)

// free is how many blocks are free.
func (r *rig) free() int {
	return palloc.Free(r.f.Sheet())
}

// leave lets just so many blocks be free: others get files in a directory zz, great ones first, then some of at most five blocks, which take none for themselves.
func (r *rig) leave(k int) {
	r.t.Helper()
	small := []string{"zz/w", "zz/x", "zz/y", "zz/z"}
	r.are(mkdir("zz"))
	for _, p := range small {
		r.are(mk(p))
	}
	for n := 0; r.free()-k > 18; n++ {
		p := "zz/" + strconv.Itoa(n)
		r.are(mk(p), write(p, 0, text(832)))
	}
	for n := 0; r.free() > k; n++ {
		r.are(write(small[n/5], n%5*64, text(64)))
	}
	if r.free() != k {
		r.t.Fatalf("%d blocks are free, want %d", r.free(), k)
	}
}

// inBucket is the n-th of some names that belong to a bucket.
func inBucket(bucket, n int) string {
	for k := 0; ; k++ {
		name := "b" + strconv.Itoa(k)
		if pack.Bucket(name) != bucket {
			continue
		}
		if n == 0 {
			return name
		}
		n--
	}
}

// linked gives the file f so many names in a directory, of buckets in turns from one on.
func linked(dir string, count int) []vfs.Op {
	var l []vfs.Op
	for k := range count {
		l = append(l, ln("f", dir+"/"+inBucket(k%4, k/4)))
	}
	return l
}

// inOne gives the file f so many names of one bucket in a directory.
func inOne(dir string, bucket, count int) []vfs.Op {
	var l []vfs.Op
	for k := range count {
		l = append(l, ln("f", dir+"/"+inBucket(bucket, k)))
	}
	return l
}

// tight is an op that takes just so many blocks behind some others; below 0 it gives some back.
type tight struct {
	what   string
	behind []vfs.Op
	o      vfs.Op
	takes  int
}

// wantTight asks that an op is OK with just the blocks that it takes, and ErrSpace with one fewer.
func wantTight(t *testing.T, format int, x tight) {
	t.Helper()
	ground := newRig(t, format)
	ground.are(mkdir("d"), mkdir("e"), mk("f"))
	ground.are(x.behind...)
	for left := max(0, x.takes-1); left <= x.takes+1; left++ {
		r := ground.copied()
		r.leave(left)
		was := r.w
		got := r.do(x.o)
		switch {
		case left < x.takes && (got.E != api.ErrSpace || r.w != was):
			t.Errorf("%s: %v with %d blocks of %d", x.what, got, left, x.takes)
		case left >= x.takes && (got.E != api.OK || r.free() != left-x.takes):
			t.Errorf("%s: %v with %d blocks of %d, %d are left", x.what, got, left, x.takes, r.free())
		}
		if left < x.takes {
			r.are(rm("zz/w"))
			if r.free() >= x.takes {
				r.is(x.o, api.OK)
			}
		}
	}
}

// P12.2: with blocks too few by just one an op is ErrSpace, and nothing is otherwise; with just enough it is done. In the old format.
func TestTightOld(t *testing.T) {
	for _, x := range []tight{
		{"a first file", nil, mk("d/x"), 1},
		{"a first directory", nil, mkdir("d/x"), 1},
		{"a first link", nil, ln("f", "d/x"), 1},
		{"a fourth file", linked("d", 3), mk("d/x"), 0},
		{"a fifth file", linked("d", 4), mk("d/x"), 1},
		{"a fifth directory", linked("d", 4), mkdir("d/x"), 1},
		{"a fifth link", linked("d", 4), ln("f", "d/x"), 1},
		{"a list of a directory", linked("d", 20), mk("d/x"), 2},
		{"a list by a link", linked("d", 20), ln("f", "d/x"), 2},
		{"the last name", linked("d", 23), mk("d/x"), 0},
		{"a first byte", nil, write("f", 0, "x"), 1},
		{"a last byte", nil, write("f", 831, "x"), 2},
		{"two blocks", nil, write("f", 63, "xy"), 2},
		{"five blocks", nil, write("f", 0, text(320)), 5},
		{"six blocks, and a list", nil, write("f", 0, text(321)), 7},
		{"all blocks, and a list", nil, write("f", 0, text(832)), 14},
		{"the sixth block", []vfs.Op{write("f", 0, text(320))}, write("f", 320, "x"), 2},
		{"the seventh block", []vfs.Op{write("f", 0, text(321))}, write("f", 384, "x"), 1},
		{"no block more", []vfs.Op{write("f", 0, text(321))}, write("f", 0, text(384)), 0},
		{"a hole's block", []vfs.Op{write("f", 400, "x")}, write("f", 70, "x"), 1},
		{"from elsewhere", append(linked("e", 2), mk("e/a")), mv("e/a", "d/x"), 1},
		{"a directory from elsewhere", append(linked("e", 2), mkdir("e/a")), mv("e/a", "d/x"), 1},
		{"where it was one is free then", []vfs.Op{mk("e/a")}, mv("e/a", "d/x"), 0},
		{"to a list from elsewhere", append(linked("d", 20), linked("e", 2)...), mv("e/"+inBucket(0, 0), "d/x"), 2},
		{"the same directory", linked("d", 20), mv("d/"+inBucket(0, 0), "d/x"), 0},
		{"over another", append(linked("d", 20), mk("e/a")), mv("e/a", "d/"+inBucket(0, 0)), -1},
	} {
		wantTight(t, api.Old, x)
	}
}

// sixRuns are six blocks of a file, none beside another.
func sixRuns() []vfs.Op {
	var l []vfs.Op
	for k := range 6 {
		l = append(l, write("f", 128*k, "x"))
	}
	return l
}

// P12.2: likewise in the new format, in which a directory's blocks are its buckets'.
func TestTightNew(t *testing.T) {
	in := func(bucket, n int) string { return "d/" + inBucket(bucket, n) }
	for _, x := range []tight{
		{"a first file", nil, mk("d/x"), 1},
		{"a first directory", nil, mkdir("d/x"), 1},
		{"a first link", nil, ln("f", "d/x"), 1},
		{"a bucket's third", inOne("d", 2, 2), mk(in(2, 5)), 0},
		{"a bucket's fourth", inOne("d", 2, 3), mk(in(2, 5)), 1},
		{"a bucket's fourth directory", inOne("d", 2, 3), mkdir(in(2, 5)), 1},
		{"a bucket's fourth link", inOne("d", 2, 3), ln("f", in(2, 5)), 1},
		{"another bucket", inOne("d", 2, 3), mk(in(3, 0)), 1},
		{"the last name", linked("d", 23), mk(in(3, 5)), 0},
		{"all blocks in a run", nil, write("f", 0, text(832)), 13},
		{"the last byte", nil, write("f", 831, "x"), 1},
		{"a seventh run", sixRuns(), write("f", 800, "x"), 2},
		{"an eighth run", append(sixRuns(), write("f", 800, "x")), write("f", 64, "x"), 1},
		{"another bucket of the same directory", append(inOne("d", 0, 2), inOne("d", 1, 3)...), mv(in(0, 0), in(1, 7)), 1},
		{"where it was one is free then", append(inOne("d", 0, 1), inOne("d", 1, 3)...), mv(in(0, 0), in(1, 7)), 0},
		{"from elsewhere", inOne("e", 0, 2), mv("e/"+inBucket(0, 0), in(0, 0)), 1},
		{"another bucket from elsewhere", append(inOne("e", 0, 2), inOne("d", 1, 3)...), mv("e/"+inBucket(0, 0), in(1, 9)), 1},
		{"elsewhere one is free then", inOne("e", 0, 1), mv("e/"+inBucket(0, 0), in(0, 0)), 0},
		{"over another", append(inOne("d", 1, 3), mk("e/a")), mv("e/a", in(1, 1)), -1},
	} {
		wantTight(t, api.New, x)
	}
}

// P12.2, P4: steps that lack just one block are ErrSpace, and nothing is otherwise; with room they go on.
func TestTightSteps(t *testing.T) {
	for _, x := range []tight{
		{"four buckets", append(linked("d", 4), aim(api.New), step()), step(), 3},
		{"many names", append(linked("d", 24), aim(api.New), step()), step(), 1},
		{"nothing of its own", []vfs.Op{aim(api.New), step()}, step(), 0},
		{"a list that goes", []vfs.Op{write("f", 0, text(600)), aim(api.New), step(), step(), step()}, step(), -1},
		{"seven runs", append(sixRuns(), size("f", 300), write("f", 300, text(100)), mk("d/x"), write("f", 0, text(200)), aim(api.New), step()), step(), 0},
	} {
		wantTight(t, api.Old, x)
	}
	for _, x := range []tight{
		{"a list", []vfs.Op{write("f", 0, text(600)), aim(api.Old), step(), step(), step()}, step(), 1},
		{"a list of two blocks", []vfs.Op{write("f", 600, text(100)), aim(api.Old), step(), step(), step()}, step(), 1},
		{"four buckets", append(linked("d", 4), aim(api.Old), step()), step(), -3},
		{"many names of one bucket", append(inOne("d", 3, 6), aim(api.Old), step()), step(), 0},
		{"all names of one bucket", append(inOne("d", 3, 15), aim(api.Old), step()), step(), -1},
	} {
		wantTight(t, api.New, x)
	}
}

// P12.2: with no block free all is OK that takes none.
func TestNoBlock(t *testing.T) {
	for _, format := range formats {
		r := newRig(t, format)
		r.are(mkdir("d"), mk("d/a"), write("d/a", 0, text(400)), mk("d/b"), ln("d/b", "d/c"), mkdir("e"), mkdir("e/g"))
		r.leave(0)
		for _, o := range []vfs.Op{
			write("d/a", 0, text(448)), write("d/a", 448, ""), read("d/a", 0, 999), size("d/a", 832), size("d/a", 448), ls("d"), stat("d"), aim(format), step(),
			mv("d/b", "d/a"), mv("e/g", "e/g"), mv("d/c", "d/a"), rmdir("e/g"), rm("d/c"), rm("d/a"),
		} {
			c := r.copied()
			c.are(o)
		}
		for _, o := range []vfs.Op{write("d/a", 448, "x"), write("d/a", 0, text(449)), write("d/a", 831, "x"), write("d/b", 0, "x"), mk("e/g/x"), mkdir("e/g/x"), ln("d/b", "e/g/x")} {
			r.is(o, api.ErrSpace)
		}
		r.are(rm("d/a"), write("d/b", 0, text(400)))
	}
}

// A directory of 24 entries has six blocks and a list in the old format, eight or more in the new one; with room it is turned there and back.
func TestFullDirectory(t *testing.T) {
	r := newRig(t, api.Old)
	r.are(mkdir("d"), mk("f"))
	free := r.free()
	r.are(linked("d", 24)...)
	if r.free() != free-7 {
		t.Errorf("the old format takes %d blocks", free-r.free())
	}
	was := asked(t, r.f)
	r.are(aim(api.New), step(), step())
	if free-r.free() < 8 {
		t.Errorf("the new format takes %d blocks", free-r.free())
	}
	r.are(aim(api.Old), step(), step(), step())
	if r.free() != free-7 {
		t.Errorf("the old format takes %d blocks again", free-r.free())
	}
	if got := asked(t, r.f); got.nodes != was.nodes {
		t.Errorf("there and back it is %v, want %v", got, was)
	}
}
