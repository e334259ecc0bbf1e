package commands

import (
	"wring/api"
	"wring/copies"
)

// slots is how many lists the places of a block are in.
const slots = 1024

// tries is how many places are looked at for a copy. It must not be below 16:
// so many may be nearer than the one that P9 wants to be found, or be it.
const tries = 32

// finder knows where rows of three bytes have begun in a block.
// Places are in lists by these bytes, the last one first; a place is laid down as one more, so that 0 is none.
type finder struct {
	block  []byte
	window int
	heads  [slots]int
	before [api.MaxBlock]int // for each place the one that is behind it in its list
}

func newFinder(block []byte, window int) *finder {
	return &finder{block: block, window: window}
}

// slot tells the list of a place. There is none, if the block has not three bytes there.
func (f *finder) slot(at int) (int, bool) {
	if at < 0 || at+2 >= len(f.block) {
		return 0, false
	}
	first := int(f.block[at])
	second := int(f.block[at+1])
	third := int(f.block[at+2])
	return (529*first + 23*second + third) % slots, true
}

// learn lays down so many places from this one on.
func (f *finder) learn(at int, count int) {
	for place := at; place < at+count && place < len(f.before); place++ {
		slot, found := f.slot(place)
		if !found {
			return
		}
		f.before[place] = f.heads[slot]
		f.heads[slot] = place + 1
	}
}

// find answers the length and the distance of the longest copy that it finds for a place, the nearest of the longest; 0, if it finds none.
func (f *finder) find(at int) (int, int) {
	slot, found := f.slot(at)
	if !found {
		return 0, 0
	}
	most := len(f.block) - at
	if most > copies.Longest {
		most = copies.Longest
	}
	longest := copies.Shortest - 1
	distance := 0
	place := f.heads[slot] - 1
	for try := 0; try < tries && place >= 0 && at-place <= f.window && longest < most; try++ {
		length := f.same(place, at, most)
		if length > longest {
			longest = length
			distance = at - place
		}
		place = f.next(place)
	}
	if distance == 0 {
		return 0, 0
	}
	return longest, distance
}

// next answers the place that is behind this one in its list; -1, if none is.
func (f *finder) next(place int) int {
	if place < 0 || place >= len(f.before) {
		return -1
	}
	return f.before[place] - 1
}

// same tells how many bytes are the same from both places on, up to most of them.
func (f *finder) same(place int, at int, most int) int {
	n := 0
	for n < most && f.byteAt(place+n) == f.byteAt(at+n) {
		n++
	}
	return n
}

func (f *finder) byteAt(i int) byte {
	if i < 0 || i >= len(f.block) {
		return 0
	}
	return f.block[i]
}
