// Package commands: what a block is made of, if it is a coded one.
package commands

import "wring/copies"

// Command is a byte, or a copy.
type Command struct {
	Letter   int // its symbol of the letter code
	Length   int // of a copy
	Far      int // of a copy: its symbol of the distance code
	Distance int // of a copy
}

// IsCopy says whether the command is a copy.
func (c Command) IsCopy() bool { return c.Letter >= copies.First }

// Letters answers the commands of a block that has no copies.
func Letters(block []byte) []Command {
	var list []Command
	for i := 0; i < len(block); i++ {
		list = append(list, Command{Letter: int(block[i])})
	}
	return list
}

// Copies answers the commands of a block that has copies out of itself, wherever one is found.
// recent has the last distances ahead of the block, and then those behind it.
func Copies(block []byte, window int, recent *copies.Recent) []Command {
	var list []Command
	f := newFinder(block, window)
	at := 0
	for at < len(block) {
		length, distance := f.find(at)
		next := Command{Letter: int(block[at])}
		if length > 0 {
			next = copyOf(length, distance, recent)
		} else {
			length = 1
		}
		list = append(list, next)
		f.learn(at, length)
		at = at + length
	}
	return list
}

func copyOf(length int, distance int, recent *copies.Recent) Command {
	letter := copies.First + copies.ForLength(length)
	far, near := recent.Find(distance)
	if near {
		recent.Use(far)
	} else {
		far = copies.ForDistance(distance)
		recent.Add(distance)
	}
	return Command{Letter: letter, Length: length, Far: far, Distance: distance}
}
