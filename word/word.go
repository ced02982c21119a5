// Package word is layer 1: nodes' words: see shared/doc/01-word.md.
package word

import "sherpa/api"

// fields is how many numbers a word has.
const fields = 5

// verWidth is how many bits a version has.
const verWidth = 18

// Word is a node's.
type Word struct {
	Key, Next  int
	Mark       bool
	Claim, Ver int
}

// widths is how many bits each field has, from the lowest one on.
func widths() [fields]int {
	return [fields]int{10, 9, 1, 5, verWidth}
}

// numbers is a word's fields, in the order of its bits.
func numbers(w Word) [fields]int {
	mark := 0
	if w.Mark {
		mark = 1
	}
	return [fields]int{w.Key, w.Next, mark, w.Claim, w.Ver}
}

// split parts bits into the fields' numbers, and what stands above them.
func split(x uint64) ([fields]int, uint64) {
	var n [fields]int
	for i, width := range widths() {
		n[i] = int(x & (1<<width - 1))
		x >>= width
	}
	return n, x
}

// Put is a word's bits.
func Put(w Word) (uint64, api.Errno) {
	n := numbers(w)
	x, at := uint64(0), 0
	for i, width := range widths() {
		if n[i] < 0 || n[i] >= 1<<width {
			return 0, api.ErrRange
		}
		x |= uint64(n[i]) << at
		at += width
	}
	return x, api.OK
}

// Get is the word of bits.
func Get(x uint64) Word {
	n, _ := split(x)
	return Word{Key: n[0], Next: n[1], Mark: n[2] == 1, Claim: n[3], Ver: n[4]}
}

// Right tells whether bits are a word's.
func Right(x uint64) bool {
	_, above := split(x)
	return above == 0
}

// Link is a word with another next.
func (w Word) Link(next int) Word {
	w.Next = next
	return w.on()
}

// Marked is a word with a mark.
func (w Word) Marked() Word {
	w.Mark = true
	return w.on()
}

// Claimed is a word with a claim. It keeps its version, since the claim's
// descriptor names the word by that.
func (w Word) Claimed(by, next int, mark bool) Word {
	w.Claim, w.Next, w.Mark = by+1, next, mark
	return w
}

// Free is a word without a claim.
func (w Word) Free() Word {
	w.Claim = 0
	return w.on()
}

// on is a word a version on.
func (w Word) on() Word {
	w.Ver++
	if w.Ver == 1<<verWidth {
		w.Ver = 0
	}
	return w
}

// Bits is where fields of these widths begin, and where the last one ends.
func Bits(widths ...int) []int {
	at := 0
	l := []int{at}
	for _, width := range widths {
		at += max(width, 0)
		l = append(l, at)
	}
	return l
}
