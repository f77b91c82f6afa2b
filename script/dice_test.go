package script_test

import (
	"maps"
	"math"
	"slices"
	"strings"

	"imago/api"
	"imago/script"
	"imago/vfs"
)

// dice is a fixed row of numbers, so that each run asks the same.
type dice uint64

func (d *dice) upTo(n int) int {
	*d = *d*6364136223846793005 + 1442695040888963407
	return int(uint64(*d) >> 33 % uint64(n))
}

// names are few, so that ops meet one another; the last ones are none.
var names = []string{"a", "b", "c", "dd", "sevenby", "!~", "eightbyt", "", ".", "..", "a/b", "\x7f", "é", "\x00"}

// there is where something of a kind is; of any, if there is none.
func (d *dice) there(t *tree, kind int) []string {
	var of []string
	keys := slices.Sorted(maps.Keys(t.at))
	for _, key := range keys {
		if t.things[t.at[key]].kind == kind {
			of = append(of, key)
		}
	}
	if len(of) == 0 {
		of = keys
	}
	return strings.Split(of[d.upTo(len(of))], "/")[1:]
}

// path goes to something of a kind, or from there a name on; now and then it goes anywhere.
func (d *dice) path(t *tree, kind int, on bool) []string {
	if d.upTo(12) == 0 {
		kind, on = 1+d.upTo(2), d.upTo(2) == 0
	}
	l := d.there(t, kind)
	switch {
	case d.upTo(40) == 0:
		return append(l, names[d.upTo(len(names))])
	case on:
		return append(l, names[d.upTo(6)])
	}
	return l
}

// number is mostly one of a file's bytes, now and then one that is none.
func (d *dice) number() int {
	if d.upTo(30) == 0 {
		return []int{-1, math.MinInt, 831, 832, 833, math.MaxInt, 64, 1 << 32}[d.upTo(8)]
	}
	return d.upTo(600)
}

// op is of each kind, and now and then of none; kinds that make are more often there than those that take away.
func (d *dice) op(t *tree) vfs.Op {
	kinds := []int{0, 0, 0, 0, 0, 1, 1, 1, 2, 2, 2, 2, 2, 2, 3, 3, 4, 5, 5, 6, 7, 7, 7, 8, 8, 8, 9, 10, 12, 12, 12, 12, 12, 12}
	o := vfs.Op{Kind: kinds[d.upTo(len(kinds))], Off: d.number(), N: d.number()}
	kind := api.File
	if o.Kind < 2 || o.Kind == 6 || o.Kind == 9 || d.upTo(2) == 0 && (o.Kind == 7 || o.Kind == 10) {
		kind = api.Dir
	}
	o.Path, o.To = d.path(t, kind, o.Kind < 2), d.path(t, api.Dir, d.upTo(4) > 0)
	switch d.upTo(40) {
	case 0, 1:
		o.Kind, o.N = 11, 1+d.upTo(2)
	case 2:
		o.Kind = []int{-1, 13, math.MinInt, math.MaxInt, 1 << 32, 11}[d.upTo(6)]
	}
	if o.Kind == 2 {
		o.Data = []byte(strings.Repeat(string(rune('!'+d.upTo(90))), d.upTo(300)))
	}
	return o
}

func (d *dice) keep() []uint8 {
	l := make([]uint8, d.upTo(6))
	for k := range l {
		l[k] = uint8(d.upTo(256))
	}
	return l
}

// step is an op with whatever may come to pass; what is there of a fuse or a crash that it hasn't means nothing.
func (d *dice) step(t *tree) script.Step {
	x := script.Step{O: d.op(t), N: d.upTo(100), Keep: d.keep(), Fuse: d.upTo(3) == 0, Crash: d.upTo(5) == 0}
	if d.upTo(8) == 0 {
		x.N = []int{-1, math.MinInt, 0, 1, 400, math.MaxInt}[d.upTo(6)]
	}
	return x
}
