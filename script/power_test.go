package script_test

import (
	"slices"
	"testing"

	"imago/api"
	"imago/pmem"
	"imago/script"
	"imago/vfs"
)

// altering are ops on a town, half turned to a format, that alter something, of each kind that does.
func altering(format int) []vfs.Op {
	return []vfs.Op{
		mk("d/x"), mkdir("x"), write("a", 3, text(70)), write("d/b", 0, text(400)), write("h", 0, "x"), size("h", 100), size("h", 0),
		rm("h"), rm("full/na"), rmdir("g"), rmdir("d/e/z"), mv("a", "x"), mv("h", "d/b"), mv("d/e", "g"), mv("full/na", "full/x"),
		ln("h", "d/e/h"), aim(3 - format), step(),
	}
}

// keeps are ways in which a crash keeps dirty words: none, all, some by fewer bits than there are words, some by more.
func keeps() [][]uint8 {
	many := make([]uint8, 3000)
	for k := range many {
		many[k] = uint8(k*k/3 + k/7)
	}
	return [][]uint8{nil, {1}, {0, 1}, {254, 3, 5, 0}, many}
}

// cut does an op with a fuse, asks what it tells, and tells the words behind the mount.
func cut(t *testing.T, words []uint64, o vfs.Op, n, deeds int, keep []uint8) []uint64 {
	t.Helper()
	p := pmem.Of(words)
	f, results := ran(t, p, []script.Step{fused(o, n, keep...), {O: ls("d")}})
	want := api.OK
	if n < deeds {
		want = api.ErrLost
	}
	wantErrors(t, results, want, api.OK)
	return files(f.Sheet().Words())
}

// P2: where the power goes at any deed of an op, whatever dirty words are kept, the op is done as a whole, or not at all; answered, it is done.
func TestPower(t *testing.T) {
	for _, format := range formats {
		words := town(t, format)
		for _, o := range altering(format) {
			powerAtEach(t, words, o)
		}
	}
}

// powerAtEach lets the power go at each deed of an op, and behind it.
func powerAtEach(t *testing.T, words []uint64, o vfs.Op) {
	t.Helper()
	done := pmem.Of(words)
	f, _ := ran(t, done, plain(o))
	is, was, deeds := files(f.Sheet().Words()), files(words), done.Deeds()
	if slices.Equal(is, was) {
		t.Fatalf("%v alters nothing", o)
	}
	before, behind := 0, 0
	for n := range deeds + 2 {
		for k, keep := range keeps() {
			if k != n%5 && n < deeds-8 {
				continue // of most deeds one way to keep words is enough
			}
			switch got := cut(t, words, o, n, deeds, keep); {
			case slices.Equal(got, is):
				behind++
			case slices.Equal(got, was) && n < deeds:
				before++
			default:
				t.Fatalf("%v is done in part, behind %d deeds of %d, kept %v", o, n, deeds, keep)
			}
		}
	}
	if before == 0 || behind < 10 {
		t.Errorf("%v: it wasn't done at %d fuses, and done at %d", o, before, behind)
	}
}

// P2: the power goes as a commit word is stored: kept, the op is done at the next mount; not kept, it never was. Kept or not is no matter ahead of that, nor behind its flush and fence.
func TestPowerAtCommitWord(t *testing.T) {
	words := town(t, api.New)
	for _, o := range altering(api.New) {
		done := pmem.Of(words)
		f, _ := ran(t, done, plain(o))
		is, was, deeds := files(f.Sheet().Words()), files(words), done.Deeds()
		kept, lasts := -1, -1 // the first deeds behind which it is done
		for n := range deeds {
			all, none := cut(t, words, o, n, deeds, []uint8{1}), cut(t, words, o, n, deeds, nil)
			if kept < 0 && slices.Equal(all, is) {
				kept = n
			}
			if lasts < 0 && slices.Equal(none, is) {
				lasts = n
			}
			if kept < 0 && !slices.Equal(all, was) || lasts < 0 && !slices.Equal(none, was) ||
				kept >= 0 && !slices.Equal(all, is) || lasts >= 0 && !slices.Equal(none, is) {
				t.Fatalf("%v behind %d deeds of %d", o, n, deeds)
			}
		}
		if kept < 3 || lasts != kept+2 {
			t.Errorf("%v: kept, it is done behind %d deeds, else behind %d", o, kept, lasts)
		}
	}
}

// could are the trees that may be there behind a script: an op that was answered is done, and tells what it should; one that was lost is done, or not.
func could(is *tree, l []script.Step, results []vfs.Result) []*tree {
	may := []*tree{is}
	for k, x := range l {
		var next []*tree
		for _, u := range may {
			want, done := u.do(x.O)
			switch {
			case results[k].E == api.ErrLost:
				next = append(next, u, done)
			case alike(results[k], want):
				next = append(next, done)
			}
		}
		may = next
	}
	return may
}

// wantOneOf asks that the tree is one of those that may be there.
func wantOneOf(t *testing.T, f *vfs.FS, may []*tree) {
	t.Helper()
	is := asked(t, f)
	if !slices.ContainsFunc(may, is.same) {
		t.Errorf("the tree is %v, which is none of %d", is, len(may))
	}
}

// P2: wherever the power goes in a script, once or in several ops, all that was answered is there, and what was lost as a whole, or not at all; what comes behind finds just that.
func TestPowerInScripts(t *testing.T) {
	for _, format := range formats {
		ops := []vfs.Op{mkdir("d"), mk("d/a"), write("d/a", 30, text(90)), aim(3 - format), step(), ln("d/a", "c"), step(), mv("d/a", "b"), rm("c"), step(), size("b", 31), rmdir("d")}
		start := newTree(format)
		whole := formatted(t, format)
		from := whole.Deeds()
		ran(t, whole, plain(ops...))
		lost := 0
		for n := range whole.Deeds() - from + 3 {
			for _, more := range []int{0, 1} {
				l := plain(ops...)
				l[0].Fuse, l[0].N = true, n
				for k := range l {
					l[k].Keep = keeps()[(n+k+more)%5]
					if k%5 == 4 && more > 0 {
						l[k].Fuse, l[k].N, l[k].Crash = true, n%61, n%2 > 0
					}
				}
				p := formatted(t, format)
				f, results := ran(t, p, l)
				wantOneOf(t, f, could(start, l, results))
				for _, r := range results {
					if r.E == api.ErrLost {
						lost++
					}
				}
				if t.Failed() {
					t.Fatalf("the script is %v, the results %v", l, results)
				}
			}
		}
		if lost < 300 {
			t.Errorf("%d were lost", lost)
		}
	}
}

// P2: where the power goes in the mount ahead of a script, with a fuse from before, no step is done; the script that is run again finds what was committed.
func TestPowerInMount(t *testing.T) {
	words := town(t, api.New)
	for _, o := range []vfs.Op{write("d/b", 0, text(400)), mv("h", "d/b"), step(), mkdir("x")} {
		done := pmem.Of(words)
		f, _ := ran(t, done, plain(o))
		is := files(f.Sheet().Words())
		stands := lostBehindCommit(t, words, o, done.Deeds())
		whole := pmem.Of(stands)
		ran(t, whole, nil)
		if whole.Deeds() < 6 {
			t.Fatalf("%v: a mount of %d deeds", o, whole.Deeds())
		}
		for n := range whole.Deeds() + 1 {
			for _, keep := range keeps() {
				p := pmem.Of(stands)
				p.Fuse(n)
				if f, results, e := script.Run(p, plain(mk("y"))); f != nil || len(results) != 0 || e != api.ErrLost {
					t.Fatalf("with the power for %d deeds: %v, %v, %v", n, f, results, e)
				}
				p.Crash(keep)
				f, _ := ran(t, p, nil)
				if !slices.Equal(files(f.Sheet().Words()), is) {
					t.Fatalf("%v: behind %d deeds of a mount it isn't done", o, n)
				}
			}
		}
	}
}

// lostBehindCommit are words in whose journal an op stands, since the power went behind its commit.
func lostBehindCommit(t *testing.T, words []uint64, o vfs.Op, deeds int) []uint64 {
	t.Helper()
	p := pmem.Of(words)
	f, _ := ran(t, p, nil)
	p.Fuse(deeds - 4)
	if r := f.Do(o); r.E != api.ErrLost {
		t.Fatalf("%v: %v", o, r)
	}
	p.Crash(nil)
	stands := loaded(t, p)
	if stands[api.LogAt] == 0 {
		t.Fatalf("%v doesn't stand", o)
	}
	return stands
}
