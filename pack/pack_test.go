package pack_test

import (
	"encoding/binary"
	"hash/fnv"
	"math"
	"slices"
	"strings"
	"testing"

	"imago/api"
	"imago/pack"
)

// goodNames are names of each length, with the edges of what a byte may be.
var goodNames = []string{
	"a", "!", "~", "...", ".a", "a.", "..a", "a..", ".!", "0", "\\", "ab", "abc", "abcd", "abcde", "abcdef",
	"abcdefg", "!!!!!!!", "~~~~~~~", ".......", "A~!0.-_",
}

// badNames are none: by their length, their bytes, or because paths use them otherwise.
var badNames = []string{
	"", ".", "..", "/", "a/", "/a", "a/b", "abcdef/", "abcdefgh", "abcdefghi", strings.Repeat("a", 256),
	strings.Repeat("a", 257), strings.Repeat("a", 263), strings.Repeat("a", 100000),
	" ", "a ", " a", "abcdef ", "\x7f", "a\x7f", "\x00", "a\x00", "\x00a", "abcdef\x00", "\x1f", "\n", "\t",
	"\x80", "\xff", "a\xff", "é", "aé", "\u0161", "日本", "\xe2\x82",
}

// refGood asks the chapter's sentence anew, in another way than the package.
func refGood(name string) bool {
	const bytes = "!\"#$%&'()*+,-.0123456789:;<=>?@ABCDEFGHIJKLMNOPQRSTUVWXYZ[\\]^_`abcdefghijklmnopqrstuvwxyz{|}~"
	for _, c := range []byte(name) {
		if strings.IndexByte(bytes, c) < 0 {
			return false
		}
	}
	return len(name) >= 1 && len(name) <= 7 && name != "." && name != ".."
}

// refSum is the sum as the library has it.
func refSum(l []uint64) uint32 {
	h := fnv.New32a()
	for _, w := range l {
		h.Write(binary.LittleEndian.AppendUint64(nil, w))
	}
	return h.Sum32()
}

// dice is a fixed row of numbers, so that each run asks the same.
type dice uint64

func (d *dice) roll() uint64 {
	*d = *d*6364136223846793005 + 1442695040888963407
	w := uint64(*d)
	return w ^ w>>29
}

// name rolls up to eight bytes, most of which a name may have.
func (d *dice) name() string {
	b := make([]byte, d.roll()>>40%9)
	for i := range b {
		b[i] = byte('!' + d.roll()>>40%94)
	}
	return string(b)
}

// P2.1: Good, of names and of what is none.
func TestGood(t *testing.T) {
	for _, name := range goodNames {
		if !pack.Good(name) {
			t.Errorf("%q isn't good", name)
		}
	}
	for _, name := range badNames {
		if pack.Good(name) {
			t.Errorf("%q is good", name)
		}
	}
}

// P2.1: each byte, alone and in each place of a name.
func TestGoodBytes(t *testing.T) {
	for c := range 256 {
		for at := range api.MaxName {
			b := []byte("xxxxxxx")
			b[at] = byte(c)
			for n := at + 1; n <= api.MaxName; n++ {
				name := string(b[:n])
				if got := pack.Good(name); got != refGood(name) {
					t.Errorf("%q: %v", name, got)
				}
			}
		}
		if got := pack.Good(string([]byte{byte(c)})); got != refGood(string([]byte{byte(c)})) {
			t.Errorf("byte %d alone: %v", c, got)
		}
	}
}

// P2.1: a name's bytes, the first one lowest, and their number in the highest.
func TestWord(t *testing.T) {
	words := map[string]uint64{
		"a":       0x0100000000000061,
		"!":       0x0100000000000021,
		"~":       0x010000000000007e,
		"ab":      0x0200000000006261,
		"...":     0x03000000002e2e2e,
		"abcdef":  0x0600666564636261,
		"abcdefg": 0x0767666564636261,
		"~~~~~~~": 0x077e7e7e7e7e7e7e,
	}
	for name, want := range words {
		if w, ok := pack.Word(name); w != want || !ok {
			t.Errorf("%q: %016x, %v, want %016x", name, w, ok, want)
		}
	}
	for _, name := range badNames {
		if w, ok := pack.Word(name); w != 0 || ok {
			t.Errorf("%q: %016x, %v", name, w, ok)
		}
	}
}

// P2.2, P2.1: of a name's word comes the name, and no two have one word.
func TestNamesComeAgain(t *testing.T) {
	names := slices.Clone(goodNames)
	d := dice(1)
	for range 5000 {
		if name := d.name(); refGood(name) {
			names = append(names, name)
		}
	}
	of := map[uint64]string{}
	for _, name := range names {
		w, ok := pack.Word(name)
		if !ok {
			t.Fatalf("%q has no word", name)
		}
		if other, there := of[w]; there && other != name {
			t.Errorf("%q and %q have one word", name, other)
		}
		of[w] = name
		if got, ok := pack.Name(w); got != name || !ok {
			t.Errorf("%016x: %q, %v, want %q", w, got, ok, name)
		}
	}
}

// P2.1: words that are no name's.
func TestNoNames(t *testing.T) {
	words := []uint64{
		0, 1, 0x61, math.MaxUint64, 1 << 63,
		0x0000000000000061, // no length
		0x0100000000000000, // a nought in the name
		0x0200000000000061, // longer than its bytes
		0x0200000000006100, // a nought first
		0x0100000000006261, // shorter than its bytes
		0x0161000000000061, // a byte far behind the name
		0x0100000000000161,
		0x010000000000002e, // .
		0x0200000000002e2e, // ..
		0x010000000000002f, // /
		0x0300000000622f61, // a/b
		0x0100000000000020, 0x010000000000007f, 0x0100000000000080, 0x01000000000000ff,
		0x0867666564636261, 0x0967666564636261, 0xff67666564636261, 0x8100000000000061, 0x8767666564636261,
		api.Magic,
	}
	for _, w := range words {
		if name, ok := pack.Name(w); name != "" || ok {
			t.Errorf("%016x: %q, %v", w, name, ok)
		}
	}
}

// P2.1: whatever word there is, its name is one whose word is just that; a name's word with one bit turned is another's or none's.
func TestNameIsJustItsWord(t *testing.T) {
	d := dice(2)
	ask := func(w uint64) {
		name, ok := pack.Name(w)
		if !ok {
			if name != "" {
				t.Errorf("%016x: %q beside false", w, name)
			}
			b := binary.LittleEndian.AppendUint64(nil, w)
			n := int(b[7])
			if n <= 7 && refGood(string(b[:n])) && strings.Trim(string(b[n:7]), "\x00") == "" {
				t.Errorf("%016x is a name's", w)
			}
			return
		}
		if back, good := pack.Word(name); back != w || !good {
			t.Errorf("%016x: %q, whose word is %016x", w, name, back)
		}
	}
	for range 2000 {
		w := d.roll()
		ask(w)
		ask(w&(1<<56-1) | (w>>60)<<56)
	}
	for _, name := range goodNames {
		w, _ := pack.Word(name)
		for bit := range 64 {
			ask(w ^ 1<<bit)
		}
	}
}

// P2.1: the sum, by numbers that were worked out of the chapter's words by another program.
func TestSumOfFew(t *testing.T) {
	sums := []struct {
		l    []uint64
		want uint32
	}{
		{nil, 2166136261},
		{[]uint64{}, 2166136261},
		{[]uint64{0}, 0x9be17165},
		{[]uint64{1}, 0x3e801244},
		{[]uint64{math.MaxUint64}, 0x6cae0a5d},
		{[]uint64{0x0100000000000061}, 0x93542fb7},
		{[]uint64{1, 2}, 0xefd05506},
		{[]uint64{2, 1}, 0x74bebe66},
	}
	for _, c := range sums {
		if got := pack.Sum(c.l); got != c.want {
			t.Errorf("%x: %x, want %x", c.l, got, c.want)
		}
	}
}

// P2.1: the sum of longer lists, as the library has it.
func TestSumOfMany(t *testing.T) {
	d := dice(3)
	lists := [][]uint64{make([]uint64, 2*api.MaxPairs)}
	for range 300 {
		l := make([]uint64, d.roll()>>40%20)
		for i := range l {
			l[i] = d.roll()
		}
		lists = append(lists, l)
	}
	for _, l := range lists {
		given := slices.Clone(l)
		if got := pack.Sum(l); got != refSum(l) {
			t.Errorf("%x: %x, want %x", l, got, refSum(l))
		}
		if !slices.Equal(given, l) {
			t.Error("what was handed in is changed")
		}
	}
}

// P2.1: the sum of its word alone, modulo 4; 0 of no name.
func TestBucket(t *testing.T) {
	for name, want := range map[string]int{"a": 3, "b": 0, "c": 1, "d": 2, "abcdefg": 0} {
		if got := pack.Bucket(name); got != want {
			t.Errorf("%q: %d, want %d", name, got, want)
		}
	}
	var hit [4]bool
	d := dice(4)
	names := slices.Clone(goodNames)
	for range 1000 {
		if name := d.name(); refGood(name) {
			names = append(names, name)
		}
	}
	for _, name := range names {
		b := binary.LittleEndian.AppendUint64(nil, 0)
		copy(b, name)
		b[7] = byte(len(name))
		want := int(refSum([]uint64{binary.LittleEndian.Uint64(b)}) % 4)
		if got := pack.Bucket(name); got != want {
			t.Errorf("%q: %d, want %d", name, got, want)
		}
		hit[want] = true
	}
	if hit != [4]bool{true, true, true, true} {
		t.Error("not all buckets are asked", hit)
	}
	for _, name := range badNames {
		if got := pack.Bucket(name); got != 0 {
			t.Errorf("%q: %d", name, got)
		}
	}
}

// P2.1: a word's bytes, the lowest first, and back.
func TestBytesAndJoin(t *testing.T) {
	if got := pack.Bytes(0x0807060504030201); got != [8]byte{1, 2, 3, 4, 5, 6, 7, 8} {
		t.Error(got)
	}
	if got := pack.Join([8]byte{1, 2, 3, 4, 5, 6, 7, 8}); got != 0x0807060504030201 {
		t.Errorf("%x", got)
	}
	for at := range 8 {
		var b [8]byte
		b[at] = 255
		w := uint64(255) << (8 * at)
		if pack.Join(b) != w || pack.Bytes(w) != b {
			t.Error("byte", at, pack.Join(b), pack.Bytes(w))
		}
	}
	d := dice(5)
	for _, w := range []uint64{0, 1, 128, 255, 256, 1 << 63, math.MaxUint64, d.roll(), d.roll(), d.roll()} {
		if pack.Join(pack.Bytes(w)) != w {
			t.Errorf("%x doesn't come back", w)
		}
	}
}
