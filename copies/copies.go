// Package copies: what the symbols of a copy say of its length and its distance.
package copies

import "wring/api"

// First is the first symbol of the letter code that is a copy.
const First = 256

// Near is how many of the last distances have symbols of their own.
const Near = 4

// How long a copy is.
const (
	Shortest = 3
	Longest  = 520
)

// Length tells the least length of a copy, and how many bits more say what is added to it.
// k is the copy's symbol less First.
func Length(k int) (int, int) {
	if k < 8 {
		return 3 + k, 0
	}
	return 9 + 1<<uint(k-7), k - 7
}

// Distance tells the same of a distance, for symbols that do not stand for one of the last distances.
func Distance(symbol int) (int, int) {
	if symbol < Near {
		return 0, 0
	}
	return 1 << uint(symbol-Near), symbol - Near
}

// ForLength answers the k of a length.
func ForLength(length int) int {
	k := 0
	for k < api.Letters-First-1 {
		least, more := Length(k)
		if length < least+1<<uint(more) {
			return k
		}
		k++
	}
	return k
}

// ForDistance answers the symbol of a distance that is none of the last ones.
func ForDistance(distance int) int {
	symbol := Near
	for symbol < api.Far-1 {
		least, more := Distance(symbol)
		if distance < least+1<<uint(more) {
			return symbol
		}
		symbol++
	}
	return symbol
}

// Recent has the last distances of a stream, the last one first.
type Recent struct {
	distances [Near]int
}

// NewRecent answers what stands there at the beginning of a stream.
func NewRecent() Recent {
	return Recent{distances: [Near]int{1, 2, 3, 4}}
}

// Use answers the distance that a symbol below Near stands for, and makes it the last one.
func (r *Recent) Use(symbol int) int {
	if symbol < 0 || symbol >= Near {
		return 0
	}
	distance := r.distances[symbol]
	if symbol > 0 {
		r.Add(distance)
	}
	return distance
}

// Find answers the symbol of a distance, if it is one of the last ones.
func (r *Recent) Find(distance int) (int, bool) {
	for i := 0; i < Near; i++ {
		if r.distances[i] == distance {
			return i, true
		}
	}
	return 0, false
}

// Add makes a distance the last one. It is not taken out where it stood before: the document lets it stand twice.
func (r *Recent) Add(distance int) {
	for i := Near - 1; i > 0; i-- {
		r.distances[i] = r.distances[i-1]
	}
	r.distances[0] = distance
}
