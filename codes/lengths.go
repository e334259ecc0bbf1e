package codes

import "wring/api"

// whole is what the sum of 2^-length has to be, in parts of 2^-MaxLength.
const whole = 1 << api.MaxLength

// lengthsFor answers lengths with a full sum, by which symbols that come so often take few bits.
// At least two symbols come, and at most MaxBlock of them in all: so no length needs to be above MaxLength.
func lengthsFor(counts []int) [api.Letters]int {
	var lengths [api.Letters]int
	total := 0
	for i := 0; i < len(counts); i++ {
		total = total + counts[i]
	}
	spare := whole
	for i := 0; i < len(counts) && i < len(lengths); i++ {
		if counts[i] > 0 {
			lengths[i] = lengthFor(counts[i], total)
			spare = spare - whole>>uint(lengths[i])
		}
	}
	for spare > 0 {
		i := toShorten(counts, lengths[:], spare)
		if i < 0 || i >= len(lengths) {
			return lengths
		}
		spare = spare - whole>>uint(lengths[i])
		lengths[i]--
	}
	return lengths
}

// lengthFor answers the least length for which 2^-length is no more than the symbol's part of the total.
// So the sum of all of these is never too great.
func lengthFor(count int, total int) int {
	length := 1
	for length < api.MaxLength && count<<uint(length) < total {
		length++
	}
	return length
}

// toShorten answers the symbol that gains most by a length that is one bit shorter, for what it takes of the sum;
// -1, if none fits into what is spare. As long as something is spare, the longest ones fit.
func toShorten(counts []int, lengths []int, spare int) int {
	best := -1
	gain := 0
	for i := 0; i < len(counts) && i < len(lengths); i++ {
		length := lengths[i]
		if length < 2 || whole>>uint(length) > spare {
			continue
		}
		if counts[i]<<uint(length) > gain {
			gain = counts[i] << uint(length)
			best = i
		}
	}
	return best
}
