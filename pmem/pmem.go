// Package pmem is layer 1: memory that may last, see shared/doc/01-pmem.md.
package pmem

import (
	"slices"

	"imago/api"
)

// mostWords is the size beyond which no memory grows.
const mostWords = 10000

// marks tells of the words of one line which are to last behind the next fence.
type marks [api.LineWords]bool

// PM is a memory whose words last only behind a flush and a fence.
type PM struct {
	now     []uint64 // what is loaded
	lasting []uint64 // what a crash falls back to
	flushed []marks  // by line
	deeds   int
	fused   bool
	left    int // deeds till the power is gone, where there is a fuse
}

// New makes a memory of noughts.
func New(words int) *PM {
	return Of(make([]uint64, min(max(words, 0), mostWords)))
}

// Of makes a memory of such words, all of them lasting.
func Of(words []uint64) *PM {
	words = words[:min(len(words), mostWords)]
	lines := (len(words) + api.LineWords - 1) / api.LineWords
	return &PM{
		now:     slices.Clone(words),
		lasting: slices.Clone(words),
		flushed: make([]marks, lines),
	}
}

// Len tells how many words there are.
func (p *PM) Len() int {
	return len(p.now)
}

// Load tells what was stored last, whether it lasts or not.
func (p *PM) Load(i int) (uint64, api.Errno) {
	if e := p.refusal(i); e != api.OK {
		return 0, e
	}
	return p.now[i], api.OK
}

// Store is a deed that changes a word, which isn't lasting by that alone.
func (p *PM) Store(i int, w uint64) api.Errno {
	if e := p.refusal(i); e != api.OK {
		return e
	}
	p.count()
	p.now[i] = w
	// A flush from before this store must not make the new word last.
	p.flushed[i/api.LineWords][i%api.LineWords] = false
	return api.OK
}

// Flush is a deed that readies the i-th word's line for the next fence.
func (p *PM) Flush(i int) api.Errno {
	if e := p.refusal(i); e != api.OK {
		return e
	}
	p.count()
	line := &p.flushed[i/api.LineWords]
	for k := range line {
		line[k] = true
	}
	return api.OK
}

// Fence is a deed behind which what was flushed, and not stored again, lasts.
func (p *PM) Fence() api.Errno {
	if p.gone() {
		return api.ErrLost
	}
	p.count()
lines:
	for line, marked := range p.flushed {
		if marked == (marks{}) {
			continue lines
		}
		for k, flushed := range marked {
			i := line*api.LineWords + k
			if i >= len(p.now) {
				break lines // the last line may be shorter than the others
			}
			if flushed {
				p.lasting[i] = p.now[i]
			}
		}
	}
	clear(p.flushed)
	return api.OK
}

// Fuse lets the power go behind n more deeds; below 0 it takes the fuse out.
func (p *PM) Fuse(n int) {
	if p.gone() {
		return // only a crash brings the power back
	}
	p.fused = n >= 0
	p.left = max(n, 0)
}

// Deeds tells how many stores, flushes and fences weren't refused.
func (p *PM) Deeds() int {
	return p.deeds
}

// Dirty tells how many words a crash could change.
func (p *PM) Dirty() int {
	n := 0
	for i := range p.now {
		if p.dirty(i) {
			n++
		}
	}
	return n
}

// Crash keeps those dirty words that the list says, and brings the power back.
func (p *PM) Crash(keep []uint8) {
	nth := 0
	for i := range p.now {
		if !p.dirty(i) {
			continue
		}
		if kept(keep, nth) {
			p.lasting[i] = p.now[i]
		} else {
			p.now[i] = p.lasting[i]
		}
		nth++
	}
	clear(p.flushed)
	p.fused, p.left = false, 0
}

// kept tells whether the nth dirty word stays: a short list begins anew.
func kept(keep []uint8, nth int) bool {
	return len(keep) > 0 && keep[nth%len(keep)]%2 == 1
}

func (p *PM) dirty(i int) bool {
	return p.now[i] != p.lasting[i]
}

func (p *PM) gone() bool {
	return p.fused && p.left == 0
}

// refusal asks for the power first: without it no place is looked at.
func (p *PM) refusal(i int) api.Errno {
	switch {
	case p.gone():
		return api.ErrLost
	case i < 0 || i >= len(p.now):
		return api.ErrArg
	}
	return api.OK
}

// count notes a deed that isn't refused, and burns the fuse down by one.
func (p *PM) count() {
	p.deeds++
	if p.fused {
		p.left--
	}
}
