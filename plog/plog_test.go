package plog_test

import (
	"fmt"
	"math"
	"slices"
	"testing"

	"imago/api"
	"imago/pack"
	"imago/plog"
	"imago/pmem"
)

// pairsAt is where the chapter has the pairs: behind the commit word.
const pairsAt = api.LogAt + 1

// badSizes are memories that a journal can't stand in.
var badSizes = []int{0, 1, api.LogAt, api.BitsAt, api.Words - 1, api.Words + 1, 10000}

// goodPlaces and badPlaces are the edges of what a pair may name.
var (
	goodPlaces = []int{0, 1, api.LogAt - 1, api.BitsAt, api.BitsAt + 1, api.InodesAt, api.BlocksAt, api.Words - 1}
	badPlaces  = []int{
		math.MinInt, math.MinInt + 5, -api.Words, -1, api.LogAt, api.LogAt + 1, 400, api.BitsAt - 1,
		api.Words, api.Words + 1, 1 << 31, 1<<32 + 5, 1<<62 + 5, math.MaxInt,
	}
)

func want(t *testing.T, what string, got, want any) {
	t.Helper()
	if got != want {
		t.Errorf("%s: got %v, want %v", what, got, want)
	}
}

// wantWords asks for all words, and tells of the first one that is another.
func wantWords(t *testing.T, what string, got, want []uint64) {
	t.Helper()
	if len(got) != len(want) {
		t.Errorf("%s: %d words, want %d", what, len(got), len(want))
		return
	}
	for i := range got {
		if got[i] != want[i] {
			t.Errorf("%s: the word %d is %x, want %x", what, i, got[i], want[i])
			return
		}
	}
}

// words loads all words, which needs the power.
func words(t *testing.T, p *pmem.PM) []uint64 {
	t.Helper()
	l := make([]uint64, p.Len())
	for i := range l {
		w, e := p.Load(i)
		if e != api.OK {
			t.Fatal("load", i, e)
		}
		l[i] = w
	}
	return l
}

// ground is a memory's words, each another one, without a journal.
func ground() []uint64 {
	l := make([]uint64, api.Words)
	for i := range l {
		if i < api.LogAt || i >= api.BitsAt {
			l[i] = uint64(i)*0x9e3779b97f4a7c15 + 1
		}
	}
	return l
}

// over puts pairs over words, the last one of a place last.
func over(base []uint64, l []api.Pair) []uint64 {
	all := slices.Clone(base)
	for _, x := range l {
		all[x.At] = x.Word
	}
	return all
}

// flat is a journal's form of pairs.
func flat(l []api.Pair) []uint64 {
	var all []uint64
	for _, x := range l {
		all = append(all, uint64(x.At), x.Word)
	}
	return all
}

// logged lays words behind a commit word that counts n pairs, and sums up just these words.
func logged(base []uint64, n uint64, pairs []uint64) []uint64 {
	all := slices.Clone(base)
	all[api.LogAt] = n*(1<<32) + uint64(pack.Sum(pairs))
	copy(all[pairsAt:], pairs)
	return all
}

// standing is a journal of a commit that stands.
func standing(base []uint64, l []api.Pair) []uint64 {
	return logged(base, uint64(len(l)), flat(l))
}

// row is n pairs one behind the other from a place on.
func row(from, n int) []api.Pair {
	l := make([]api.Pair, n)
	for k := range l {
		l[k] = api.Pair{At: from + k, Word: uint64(k)*3 + 1000}
	}
	return l
}

// apart is n pairs, each in a line of its own, falling.
func apart(n int) []api.Pair {
	l := make([]api.Pair, n)
	for k := range l {
		l[k] = api.Pair{At: api.Words - 1 - k*api.LineWords, Word: uint64(k) << 40}
	}
	return l
}

// lists are commits of many forms: one pair, edges, lines shared and not, places twice, as many as may be.
func lists() map[string][]api.Pair {
	edges := make([]api.Pair, len(goodPlaces))
	for k, at := range goodPlaces {
		edges[k] = api.Pair{At: at, Word: math.MaxUint64 - uint64(k)}
	}
	return map[string][]api.Pair{
		"one":             {{At: 0, Word: 7}},
		"one, a nought":   {{At: api.Words - 1, Word: 0}},
		"edges":           edges,
		"one line":        row(api.BitsAt, 8),
		"across lines":    row(api.BlocksAt+6, 4),
		"falling":         {{At: 3000, Word: 1}, {At: 2000, Word: 2}, {At: 1000, Word: 3}, {At: 5, Word: 4}},
		"to and fro":      {{At: 824, Word: 1}, {At: 0, Word: 2}, {At: 825, Word: 3}, {At: 1, Word: 4}, {At: 824, Word: 5}},
		"one place twice": {{At: 900, Word: 1}, {At: 900, Word: 2}},
		"apart":           apart(20),
		"two log lines":   row(1200, 4),
		"full lines":      row(1300, 35),
		"one less":        row(api.InodesAt, api.MaxPairs-1),
		"most":            row(api.Words-api.MaxPairs, api.MaxPairs),
		"most, one place": slices.Repeat([]api.Pair{{At: api.LogAt - 1, Word: 1}, {At: api.LogAt - 1, Word: 2}}, 200),
	}
}

// P3.1, the chapter's example: one pair is in its place, and lasting; of the journal the commit word alone is taken back.
func TestCommitOfOne(t *testing.T) {
	p := pmem.Of(ground())
	want(t, "commit", plog.Commit(p, []api.Pair{{At: 2000, Word: 77}}), api.OK)
	all := ground()
	all[2000], all[pairsAt], all[pairsAt+1] = 77, 2000, 77
	wantWords(t, "behind it", words(t, p), all)
	want(t, "dirty", p.Dirty(), 0)
	want(t, "deeds", p.Deeds(), 4+3+3+3)
	p.Crash(nil)
	wantWords(t, "behind a crash", words(t, p), all)
}

// P3.1: all forms of lists come to their places, and last; nothing is left to be replayed.
func TestCommit(t *testing.T) {
	for name, l := range lists() {
		p := pmem.Of(ground())
		want(t, name, plog.Commit(p, l), api.OK)
		all := over(ground(), l)
		copy(all[pairsAt:], flat(l))
		wantWords(t, name, words(t, p), all)
		want(t, name+", dirty", p.Dirty(), 0)
		wantNone(t, name, p)
		deeds := p.Deeds()
		want(t, name+", replay", plog.Replay(p), api.OK)
		want(t, name+", deeds of a replay", p.Deeds(), deeds)
	}
}

// P3.1: of no pairs nothing is done, not even to a commit that stands.
func TestCommitOfNone(t *testing.T) {
	for _, base := range [][]uint64{ground(), standing(ground(), row(1500, 3)), logged(ground(), 9, nil)} {
		for _, l := range [][]api.Pair{nil, {}} {
			p := pmem.Of(base)
			want(t, "commit", plog.Commit(p, l), api.OK)
			want(t, "deeds", p.Deeds(), 0)
			wantWords(t, "words", words(t, p), base)
		}
	}
}

// P3.1: one commit behind another, the longer one first, so that its pairs stay behind the others.
func TestCommitAgain(t *testing.T) {
	p := pmem.Of(ground())
	all := ground()
	for _, l := range [][]api.Pair{row(1300, 35), row(1310, 3), nil, row(816, 1), apart(20)} {
		want(t, "commit", plog.Commit(p, l), api.OK)
		all = over(all, l)
		copy(all[pairsAt:], flat(l))
		wantWords(t, "words", words(t, p), all)
		wantNone(t, "behind it", p)
	}
}

// refused asks that a commit is ErrArg, with power and without, and does nothing.
func refused(t *testing.T, what string, p *pmem.PM, l []api.Pair) {
	t.Helper()
	all := words(t, p)
	want(t, what, plog.Commit(p, l), api.ErrArg)
	want(t, what+", deeds", p.Deeds(), 0)
	wantWords(t, what, words(t, p), all)
	p.Fuse(0)
	want(t, what+", without power", plog.Commit(p, l), api.ErrArg)
}

// P3.1: ErrArg of memories of another size, of the empty list too, and ahead of ErrLost.
func TestCommitOfOtherMemories(t *testing.T) {
	for _, size := range badSizes {
		for _, l := range [][]api.Pair{nil, {{At: 0, Word: 1}}, {{At: -1, Word: 1}}, row(1000, 401)} {
			refused(t, "size", pmem.New(size), l)
		}
	}
	refused(t, "a memory that was never made", &pmem.PM{}, nil)
}

// P3.1: ErrArg of a place that is none, wherever it is in the list; at the edges there are places.
func TestCommitPlaces(t *testing.T) {
	for _, at := range badPlaces {
		bad := api.Pair{At: at, Word: 1}
		good := row(1000, 3)
		refused(t, "alone", pmem.Of(ground()), []api.Pair{bad})
		refused(t, "first", pmem.Of(ground()), append([]api.Pair{bad}, good...))
		refused(t, "last", pmem.Of(ground()), append(good, bad))
		refused(t, "the last of most", pmem.Of(ground()), append(row(1000, api.MaxPairs-1), bad))
	}
	for _, at := range goodPlaces {
		p := pmem.Of(ground())
		want(t, "commit", plog.Commit(p, []api.Pair{{At: at, Word: 5}}), api.OK)
		w, e := p.Load(at)
		want(t, "word", w, uint64(5))
		want(t, "load", e, api.OK)
	}
}

// P3.1: ErrArg of more than MaxPairs pairs; of just so many not.
func TestCommitOfTooMany(t *testing.T) {
	for _, n := range []int{api.MaxPairs + 1, api.MaxPairs + 2, 1000} {
		refused(t, "too many", pmem.Of(ground()), row(api.BlocksAt, n))
	}
	refused(t, "too many of one place", pmem.Of(ground()), slices.Repeat(row(0, 1), api.MaxPairs+1))
	want(t, "most", plog.Commit(pmem.Of(ground()), row(api.BlocksAt, api.MaxPairs)), api.OK)
}

// P3.1: ErrLost without power, of the empty list too; nothing is changed.
func TestLost(t *testing.T) {
	for _, l := range [][]api.Pair{nil, {}, row(1000, 3)} {
		base := standing(ground(), row(1500, 3))
		p := pmem.Of(base)
		p.Fuse(0)
		want(t, "commit", plog.Commit(p, l), api.ErrLost)
		want(t, "replay", plog.Replay(p), api.ErrLost)
		got, ok, e := plog.Standing(p)
		want(t, "standing", e, api.ErrLost)
		want(t, "pairs beside an error", len(got), 0)
		want(t, "stands beside an error", ok, false)
		want(t, "deeds", p.Deeds(), 0)
		p.Crash(nil)
		wantWords(t, "words", words(t, p), base)
	}
}

// R5: what is handed in stays, its spare room too.
func TestHandedInStays(t *testing.T) {
	room := row(1000, 6)
	plog.Commit(pmem.Of(ground()), room[:3])
	if !slices.Equal(room, row(1000, 6)) {
		t.Error(room)
	}
}

// wantNone asks that no commit stands.
func wantNone(t *testing.T, what string, p *pmem.PM) {
	t.Helper()
	deeds := p.Deeds()
	l, ok, e := plog.Standing(p)
	want(t, what+", pairs", len(l), 0)
	want(t, what+", stands", ok, false)
	want(t, what+", error", e, api.OK)
	want(t, what+", deeds of a question", p.Deeds(), deeds)
}

// P3.1: Standing tells the pairs as they are in the journal, and changes nothing.
func TestStanding(t *testing.T) {
	for name, l := range lists() {
		base := standing(ground(), l)
		p := pmem.Of(base)
		got, ok, e := plog.Standing(p)
		want(t, name+", error", e, api.OK)
		want(t, name+", stands", ok, true)
		if !slices.Equal(got, l) {
			t.Error(name, got)
		}
		want(t, name+", deeds", p.Deeds(), 0)
		clear(got)
		again, _, _ := plog.Standing(p)
		if !slices.Equal(again, l) {
			t.Error(name, "what was answered isn't new memory", again)
		}
		wantWords(t, name, words(t, p), base)
	}
}

// Words of the chapter: what is behind the counted pairs doesn't count, in the last free words of the journal neither.
func TestStandingAheadOfOthers(t *testing.T) {
	for _, n := range []int{1, 3, api.MaxPairs} {
		l := row(1000, n)
		base := standing(ground(), l)
		for i := pairsAt + 2*n; i < api.BitsAt; i++ {
			base[i] = math.MaxUint64
		}
		got, ok, _ := plog.Standing(pmem.Of(base))
		want(t, "stands", ok, true)
		want(t, "pairs", len(got), n)
	}
}

// noJournals are words of which no commit stands, though the commit word isn't 0.
func noJournals() map[string][]uint64 {
	l := row(1000, 3)
	rows := map[string][]uint64{
		"a count of 0, the sum of none":  logged(ground(), 0, nil),
		"a count of 0, the sum of pairs": logged(ground(), 0, flat(l)),
		"a commit word of 1":             over(ground(), []api.Pair{{At: api.LogAt, Word: 1}}),
		"a commit word of all bits":      over(ground(), []api.Pair{{At: api.LogAt, Word: math.MaxUint64}}),
		"too low a count":                logged(ground(), 2, flat(l)),
		"too high a count":               logged(ground(), 4, flat(l)),
		"words counted for pairs":        logged(ground(), 6, flat(l)),
		"the sum of half the words":      logged(ground(), 3, flat(l)[:3]),
		"the sum of the places":          logged(ground(), 3, []uint64{1000, 1001, 1002}),
		"one pair too many":              logged(ground(), api.MaxPairs+1, flat(row(1000, api.MaxPairs+1))),
		"a count beyond the memory":      logged(ground(), 1600, flat(l)),
		"a count with its highest bit":   logged(ground(), 1<<31+3, flat(l)),
		"the highest count":              logged(ground(), 1<<32-1, flat(l)),
	}
	for _, at := range badPlaces {
		for k := range l {
			bad := row(1000, 3)
			bad[k].At = at
			rows[fmt.Sprint("the place ", at, " of the pair ", k)] = standing(ground(), bad)
		}
	}
	return rows
}

// Words of the chapter: a commit doesn't stand whose count, sum or places are others.
func TestNotStanding(t *testing.T) {
	for name, base := range noJournals() {
		wantNone(t, name, pmem.Of(base))
	}
	wantNone(t, "a commit word of 0", pmem.Of(ground()))
	wantNone(t, "noughts", pmem.New(api.Words))
	behind := standing(ground(), row(1000, 3))
	behind[api.LogAt] = 0
	wantNone(t, "pairs without their commit word", pmem.Of(behind))
}

// A commit word is just that of its pairs: one bit turned about, of it or of them, and it doesn't stand.
func TestOneBitTurned(t *testing.T) {
	l := row(1000, 3)
	for i := api.LogAt; i < pairsAt+2*len(l); i++ {
		for bit := range 64 {
			base := standing(ground(), l)
			base[i] ^= 1 << bit
			wantNone(t, "a bit turned", pmem.Of(base))
		}
	}
}

// The sum goes over places and words in the journal's order: a commit word that is written out here.
func TestCommitWordWrittenOut(t *testing.T) {
	sum := uint32(2166136261)
	for _, w := range []uint64{5, 0x0102030405060708, 3127, 0} {
		for range 8 {
			sum = (sum ^ uint32(w&255)) * 16777619
			w >>= 8
		}
	}
	base := ground()
	copy(base[8:], []uint64{2<<32 | uint64(sum), 5, 0x0102030405060708, 3127, 0})
	got, ok, e := plog.Standing(pmem.Of(base))
	want(t, "stands", ok, true)
	want(t, "error", e, api.OK)
	if !slices.Equal(got, []api.Pair{{At: 5, Word: 0x0102030405060708}, {At: 3127, Word: 0}}) {
		t.Error(got)
	}
}

// P3.1: Standing and Replay of other memories: ErrArg, ahead of ErrLost.
func TestOtherMemories(t *testing.T) {
	for _, size := range badSizes {
		base := make([]uint64, size)
		if size > api.BitsAt {
			copy(base, standing(ground(), row(0, 3)))
		}
		p := pmem.Of(base)
		for range 2 {
			l, ok, e := plog.Standing(p)
			want(t, "standing", e, api.ErrArg)
			want(t, "pairs beside an error", len(l), 0)
			want(t, "stands beside an error", ok, false)
			want(t, "replay", plog.Replay(p), api.ErrArg)
			want(t, "deeds", p.Deeds(), 0)
			p.Fuse(0)
		}
		p.Crash(nil)
		wantWords(t, "words", words(t, p), base)
	}
}

// P3.1: Replay of a commit that stands: its words are in their places, and last; the pairs stay, the commit word is 0.
func TestReplay(t *testing.T) {
	for name, l := range lists() {
		base := standing(ground(), l)
		p := pmem.Of(base)
		want(t, name, plog.Replay(p), api.OK)
		all := over(base, l)
		all[api.LogAt] = 0
		wantWords(t, name, words(t, p), all)
		want(t, name+", dirty", p.Dirty(), 0)
		deeds := p.Deeds()
		want(t, name+", again", plog.Replay(p), api.OK)
		want(t, name+", deeds of another", p.Deeds(), deeds)
		p.Crash(nil)
		wantWords(t, name, words(t, p), all)
	}
}

// P3.1: Replay of a commit that doesn't stand: its commit word alone is made 0, and lasts; of one that is 0, nothing.
func TestReplayOfNone(t *testing.T) {
	for name, base := range noJournals() {
		p := pmem.Of(base)
		want(t, name, plog.Replay(p), api.OK)
		want(t, name+", deeds", p.Deeds(), 3)
		want(t, name+", dirty", p.Dirty(), 0)
		base[api.LogAt] = 0
		wantWords(t, name, words(t, p), base)
		want(t, name+", again", plog.Replay(p), api.OK)
		want(t, name+", deeds of another", p.Deeds(), 3)
	}
	behind := standing(ground(), row(1000, 3))
	behind[api.LogAt] = 0
	for _, base := range [][]uint64{ground(), behind, make([]uint64, api.Words)} {
		p := pmem.Of(base)
		want(t, "replay", plog.Replay(p), api.OK)
		want(t, "deeds", p.Deeds(), 0)
		wantWords(t, "words", words(t, p), base)
	}
}
