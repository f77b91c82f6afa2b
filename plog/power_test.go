package plog_test

import (
	"slices"
	"testing"

	"imago/api"
	"imago/pack"
	"imago/plog"
	"imago/pmem"
)

// keeps are ways in which a crash keeps dirty words: none, all, each second one, the first ones, the last ones.
var keeps = [][]uint8{nil, {1}, {1, 0}, {0, 1}, {1, 1, 0}, {0, 0, 1}, {1, 0, 0, 0, 0, 0, 0, 0, 0, 0, 0}, {0, 1, 1, 0, 1}}

// part is a stretch of deeds as the chapter names them: words are stored, their lines flushed, a fence.
func part(l []api.Pair) []func(p *pmem.PM) {
	var deeds []func(p *pmem.PM)
	var lines [api.Words / api.LineWords]bool
	for _, x := range l {
		deeds = append(deeds, func(p *pmem.PM) { p.Store(x.At, x.Word) })
		lines[x.At/api.LineWords] = true
	}
	for line, touched := range lines {
		if touched {
			deeds = append(deeds, func(p *pmem.PM) { p.Flush(line * api.LineWords) })
		}
	}
	return append(deeds, func(p *pmem.PM) { p.Fence() })
}

// ending is what a commit and a replay of pairs have in common.
func ending(l []api.Pair) []func(p *pmem.PM) {
	return append(part(l), part([]api.Pair{{At: api.LogAt, Word: 0}})...)
}

// commitDeeds is a whole commit, sentence by sentence.
func commitDeeds(l []api.Pair) []func(p *pmem.PM) {
	var log []api.Pair
	for k, w := range flat(l) {
		log = append(log, api.Pair{At: pairsAt + k, Word: w})
	}
	word := uint64(len(l))*(1<<32) + uint64(pack.Sum(flat(l)))
	deeds := append(part(log), part([]api.Pair{{At: api.LogAt, Word: word}})...)
	return append(deeds, ending(l)...)
}

// sameDeeds asks that a call does just these deeds, by what it leaves where the power goes behind each of them.
func sameDeeds(t *testing.T, name string, base []uint64, call func(p *pmem.PM) api.Errno, deeds []func(p *pmem.PM)) {
	t.Helper()
	for n := range len(deeds) + 2 {
		for _, keep := range [][]uint8{nil, {1}} {
			p, q := pmem.Of(base), pmem.Of(base)
			p.Fuse(n)
			answer := api.OK
			if n < len(deeds) || n == 0 { // a fuse of 0 takes the power ahead of the call
				answer = api.ErrLost
			}
			want(t, name, call(p), answer)
			for _, deed := range deeds[:min(n, len(deeds))] {
				deed(q)
			}
			want(t, name+", deeds", p.Deeds(), q.Deeds())
			want(t, name+", dirty", p.Dirty(), q.Dirty())
			p.Crash(keep)
			q.Crash(keep)
			wantWords(t, name, words(t, p), words(t, q))
		}
		if t.Failed() {
			t.Fatal(name, "behind deeds", n)
		}
	}
}

// P3.1: the deeds of a commit are those of its sentences, in their order, lines flushed once each.
func TestDeedsOfCommit(t *testing.T) {
	for name, l := range lists() {
		commit := func(p *pmem.PM) api.Errno { return plog.Commit(p, l) }
		sameDeeds(t, name, ground(), commit, commitDeeds(l))
	}
}

// P3.1: the deeds of a replay, of a commit that stands and of one that doesn't.
func TestDeedsOfReplay(t *testing.T) {
	for name, l := range lists() {
		sameDeeds(t, name, standing(ground(), l), plog.Replay, ending(l))
	}
	torn := logged(ground(), 4, flat(row(1000, 3)))
	sameDeeds(t, "torn", torn, plog.Replay, part([]api.Pair{{At: api.LogAt, Word: 0}}))
	sameDeeds(t, "none", ground(), plog.Replay, nil)
}

// files is a memory's words without those of the journal.
func files(l []uint64) []uint64 {
	return append(slices.Clone(l[:api.LogAt]), l[api.BitsAt:]...)
}

// wantOneOf asks, behind a replay, for the words before a commit, or those behind it, and that the journal is done with.
func wantOneOf(t *testing.T, what string, p *pmem.PM, before, behind []uint64) {
	t.Helper()
	got := files(words(t, p))
	if !slices.Equal(got, files(before)) && !slices.Equal(got, files(behind)) {
		t.Error(what, "a part of a commit is there")
	}
	want(t, what+", dirty", p.Dirty(), 0)
	wantNone(t, what, p)
	if w, _ := p.Load(api.LogAt); w != 0 {
		t.Error(what, "the commit word isn't 0 behind a replay", w)
	}
}

// cut commits till the power goes behind n deeds, and crashes.
func cut(base []uint64, l []api.Pair, n int, keep []uint8) (*pmem.PM, api.Errno) {
	p := pmem.Of(base)
	p.Fuse(n)
	e := plog.Commit(p, l)
	p.Crash(keep)
	return p, e
}

// P3.2: wherever the power goes in a commit; what was answered is there, and none is before its commit word is stored.
func TestPowerInCommit(t *testing.T) {
	for name, l := range lists() {
		before, behind := ground(), over(ground(), l)
		all := len(commitDeeds(l))
		stored := all - len(ending(l)) - 3 // ahead of the commit word's store, flush and fence
		for n := range all + 1 {
			for _, keep := range keeps[:4] {
				p, e := cut(before, l, n, keep)
				want(t, name+", replay", plog.Replay(p), api.OK)
				wantOneOf(t, name, p, before, behind)
				got := files(words(t, p))
				switch {
				case n <= stored && !slices.Equal(got, files(before)):
					t.Error(name, "done ahead of its commit word", n, keep)
				case n >= stored+3 && !slices.Equal(got, files(behind)):
					t.Error(name, "lost behind its commit word", n, keep)
				case e == api.OK && n < all, e != api.OK && n == all:
					t.Error(name, "another answer", n, e)
				}
			}
			if t.Failed() {
				t.Fatal(name, "behind deeds", n)
			}
		}
	}
}

// Example 2 of the document: a commit word that is stored and kept is a commit, one that isn't kept is none.
func TestCommitWordKeptOrNot(t *testing.T) {
	for name, l := range lists() {
		before, behind := ground(), over(ground(), l)
		n := len(commitDeeds(l)) - len(ending(l)) - 2 // just behind its store
		for _, keep := range [][]uint8{{1}, {0}} {
			p, e := cut(before, l, n, keep)
			want(t, name, e, api.ErrLost)
			got, ok, _ := plog.Standing(p)
			want(t, name+", stands", ok, keep[0] == 1)
			all := before
			if ok {
				all = behind
				if !slices.Equal(got, l) {
					t.Error(name, got)
				}
			}
			want(t, name+", replay", plog.Replay(p), api.OK)
			wantWords(t, name, files(words(t, p)), files(all))
		}
	}
}

// replayCut replays words, with the power going behind n deeds, crashes, and replays anew; it tells whether the first one was whole.
func replayCut(t *testing.T, base []uint64, n int, keep []uint8) (*pmem.PM, bool) {
	t.Helper()
	p := pmem.Of(base)
	p.Fuse(n)
	e := plog.Replay(p)
	p.Crash(keep)
	want(t, "the second replay", plog.Replay(p), api.OK)
	return p, e == api.OK
}

// P3.2: wherever the power goes in a replay of a commit that stands, at last all of it is there.
func TestPowerInReplay(t *testing.T) {
	for name, l := range lists() {
		base := standing(ground(), l)
		behind := files(over(ground(), l))
		for n := range len(ending(l)) + 1 {
			for _, keep := range keeps {
				p, _ := replayCut(t, base, n, keep)
				wantWords(t, name, files(words(t, p)), behind)
				wantNone(t, name, p)
			}
			if t.Failed() {
				t.Fatal(name, "behind deeds", n)
			}
		}
	}
}

// P3.2: the power goes in a commit, and then in the replay, at each deed of both; it comes to what one replay would have come to.
func TestPowerInBoth(t *testing.T) {
	all := lists()
	for _, name := range []string{"one", "edges", "across lines", "to and fro", "one place twice"} {
		l := all[name]
		before, behind := ground(), over(ground(), l)
		for n := range len(commitDeeds(l)) {
			for _, keep := range keeps[:4] {
				p, _ := cut(before, l, n, keep)
				torn := words(t, p)
				want(t, name+", replay", plog.Replay(p), api.OK)
				wantOneOf(t, name, p, before, behind)
				once := words(t, p)
				for m, whole := 0, false; !whole; m++ {
					p, whole = replayCut(t, torn, m, keeps[(n+m)%len(keeps)])
					wantWords(t, name, words(t, p), once)
				}
				if t.Failed() {
					t.Fatal(name, "behind deeds", n, keep)
				}
			}
		}
	}
}

// P3.2: a commit in flight leaves the one before it whole, whose pairs are still in the journal.
func TestPowerInTheNextCommit(t *testing.T) {
	first := append(row(1300, 20), api.Pair{At: 5, Word: 5})
	p := pmem.Of(ground())
	want(t, "the first commit", plog.Commit(p, first), api.OK)
	base := words(t, p)
	for _, next := range [][]api.Pair{row(1310, 4), first, row(1290, 40), {{At: 5, Word: 6}}} {
		for n := range len(commitDeeds(next)) {
			for _, keep := range keeps {
				p, _ := cut(base, next, n, keep)
				want(t, "replay", plog.Replay(p), api.OK)
				wantOneOf(t, "the next", p, base, over(base, next))
			}
		}
	}
}
