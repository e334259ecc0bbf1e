// Package codes: prefix codes, as a stream tells them and as symbols are found by them.
package codes

import "wring/api"

// Code is a prefix code in which every row of bits leads to a symbol.
type Code struct {
	// counts has 1 at length 0 when the code has one symbol alone: so the search below needs no case for it.
	counts  [api.MaxLength + 1]int
	symbols [api.Letters]int // in the order of their bits
}

// Find tells the symbol that begins at the lowest of the held bits, and how many bits it takes:
// more than there are, as long as they do not suffice.
func (c *Code) Find(hold int, have int) (int, int) {
	bits := 0
	first := 0
	ahead := 0
	for length := 0; length <= api.MaxLength && length <= have; length++ {
		count := c.counts[length]
		place := ahead + bits - first
		if bits-first < count && place >= 0 && place < len(c.symbols) {
			return c.symbols[place], length
		}
		ahead = ahead + count
		first = 2 * (first + count)
		bits = 2*bits + hold>>uint(length)&1
	}
	return 0, have + 1
}

// count lays down how many symbols each length has, and says whether these lengths leave no bits without a symbol.
func (c *Code) count(lengths []int) bool {
	c.counts = [api.MaxLength + 1]int{}
	sum := 0
	for i := 0; i < len(lengths); i++ {
		n := lengths[i]
		if n > 0 && n <= api.MaxLength {
			c.counts[n]++
			sum = sum + 1<<uint(api.MaxLength-n)
		}
	}
	return sum == 1<<api.MaxLength
}

// order sorts the symbols by their bits; the lengths have been counted before.
func (c *Code) order(lengths []int) {
	var next [api.MaxLength + 1]int
	for n := 1; n < api.MaxLength; n++ {
		next[n+1] = next[n] + c.counts[n]
	}
	for i := 0; i < len(lengths); i++ {
		n := lengths[i]
		if n > 0 && n <= api.MaxLength && next[n] < len(c.symbols) {
			c.symbols[next[n]] = i
			next[n]++
		}
	}
}
