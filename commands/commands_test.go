package commands

import (
	"bytes"
	"math/rand"
	"strings"
	"testing"

	"wring/api"
	"wring/copies"
)

// done does commands as a stream's reader would, and answers what comes out and the last distances then.
func done(t *testing.T, list []Command, window int, recent copies.Recent) ([]byte, copies.Recent) {
	t.Helper()
	var out []byte
	for _, c := range list {
		if c.Letter < 256 {
			if c.IsCopy() || c != (Command{Letter: c.Letter}) {
				t.Fatalf("a letter with more: %v", c)
			}
			out = append(out, byte(c.Letter))
			continue
		}
		least, more := copies.Length(c.Letter - 256)
		if !c.IsCopy() || c.Letter >= api.Letters || c.Length < least || c.Length >= least+1<<more {
			t.Fatalf("no such length: %v", c)
		}
		least, more = copies.Distance(c.Far)
		if c.Far < copies.Near {
			least, more = recent.Use(c.Far), 0
		} else {
			recent.Add(c.Distance)
		}
		if c.Far < 0 || c.Far >= api.Far || c.Distance < least || c.Distance >= least+1<<more {
			t.Fatalf("no such distance: %v", c)
		}
		if c.Distance > window || c.Distance > len(out) {
			t.Fatalf("a copy from %d bytes ago, %d have come out, the window is %d", c.Distance, len(out), window)
		}
		for range c.Length {
			out = append(out, out[len(out)-c.Distance])
		}
	}
	return out, recent
}

// check tests that both kinds of commands give the block, and answers how many there are with copies.
func check(t *testing.T, block string, window int, recent copies.Recent) int {
	t.Helper()
	list := Letters([]byte(block))
	if len(list) != len(block) {
		t.Fatalf("%d bytes are %d letters", len(block), len(list))
	}
	if out, then := done(t, list, window, recent); string(out) != block || then != recent {
		t.Fatalf("the letters of %.40q give %.40q", block, out)
	}
	given := []byte(block)
	behind := recent
	list = Copies(given, window, &behind)
	if out, then := done(t, list, window, recent); string(out) != block || then != behind {
		t.Fatalf("the copies of %.40q give %.40q; the last distances are %v, and said to be %v", block, out, then, behind)
	}
	if string(given) != block {
		t.Fatalf("the block has been changed")
	}
	return len(list)
}

func TestNone(t *testing.T) {
	recent := copies.NewRecent()
	if list := Letters(nil); len(list) != 0 {
		t.Errorf("letters of nothing: %v", list)
	}
	if list := Copies(nil, 16, &recent); len(list) != 0 || recent != copies.NewRecent() {
		t.Errorf("copies of nothing: %v", list)
	}
}

// TestCopies: which copies there are.
func TestCopies(t *testing.T) {
	for _, c := range []struct {
		block  string
		window int
		want   []Command
	}{
		{"ab", 16, []Command{{Letter: 'a'}, {Letter: 'b'}}},
		{"aaa", 16, []Command{{Letter: 'a'}, {Letter: 'a'}, {Letter: 'a'}}},
		{"aaaa", 16, []Command{{Letter: 'a'}, {256, 3, 0, 1}}},
		{"abababab", 16, []Command{{Letter: 'a'}, {Letter: 'b'}, {259, 6, 1, 2}}},
		{"abcdeabc", 16, []Command{{Letter: 'a'}, {Letter: 'b'}, {Letter: 'c'}, {Letter: 'd'}, {Letter: 'e'}, {256, 3, 6, 5}}},
		{"0123456789abcdef012", 16, append(Letters([]byte("0123456789abcdef")), Command{256, 3, 8, 16})},
		{"0123456789abcdefg012", 16, Letters([]byte("0123456789abcdefg012"))},
		{"0123456789abcdefg012", 32, append(Letters([]byte("0123456789abcdefg")), Command{256, 3, 8, 17})},
		{strings.Repeat("a", 530), 16, []Command{{Letter: 'a'}, {271, 520, 0, 1}, {262, 9, 0, 1}}},
		// The longest one is taken, and of those the nearest one.
		{"abcdxabcyabcd", 32, append(Letters([]byte("abcdx")), Command{256, 3, 6, 5}, Command{Letter: 'y'}, Command{257, 4, 7, 9})},
		{"abcdxabcdyabcdz", 32, append(Letters([]byte("abcdx")), Command{257, 4, 6, 5}, Command{Letter: 'y'}, Command{257, 4, 0, 5}, Command{Letter: 'z'})},
	} {
		recent := copies.NewRecent()
		list := Copies([]byte(c.block), c.window, &recent)
		same := len(list) == len(c.want)
		for i := range list {
			same = same && list[i] == c.want[i]
		}
		if !same {
			t.Errorf("%.40q, window %d: %v, want %v", c.block, c.window, list, c.want)
		}
	}
}

// TestPeriods: what P9 rests on: from the second period on there are copies alone, as long as can be, whatever is near.
func TestPeriods(t *testing.T) {
	r := rand.New(rand.NewSource(40))
	for range 3000 {
		p := 1 + r.Intn(16)
		few := 1 + r.Intn(4)
		one := make([]byte, p)
		for i := range one {
			one[i] = byte(r.Intn(few)) * 50
		}
		n := 1 + r.Intn(api.MaxBlock)
		block := string(bytes.Repeat(one, n/p+1)[:n])
		got := check(t, block, 16<<r.Intn(9), copies.NewRecent())
		if most := p + (n+copies.Longest-1)/copies.Longest + 2; got > most {
			t.Errorf("%d bytes of %x over and over: %d commands, at most %d", n, one, got, most)
		}
	}
}

// TestRandom: all kinds of blocks, windows and last distances.
func TestRandom(t *testing.T) {
	r := rand.New(rand.NewSource(41))
	for range 2000 {
		recent := copies.NewRecent()
		for range r.Intn(6) {
			recent.Add(1 + r.Intn(1<<r.Intn(12)))
		}
		block := make([]byte, r.Intn(api.MaxBlock+1)>>r.Intn(10))
		few := 1 + r.Intn(256)>>r.Intn(9)
		for i := range block {
			block[i] = byte(r.Intn(few))
			if far := 1 + r.Intn(1<<r.Intn(13)); far <= i && r.Intn(4) > 0 {
				block[i] = block[i-far]
			}
		}
		check(t, string(block), 16<<r.Intn(9), recent)
	}
	check(t, strings.Repeat("0123456789abcdefg", 300)[:api.MaxBlock], 16, copies.NewRecent())
	check(t, strings.Repeat("z", api.MaxBlock), 4096, copies.NewRecent())
}

// TestFarthest: a copy from as far away as a distance can tell.
func TestFarthest(t *testing.T) {
	block := []byte("xyz")
	for i := 0; len(block) < 4093; i++ {
		block = append(block, byte(i>>8), byte(i), 200)
	}
	block = append(block[:4093], "xyz"...)
	check(t, string(block), 4096, copies.NewRecent())
	recent := copies.NewRecent()
	list := Copies(block, 4096, &recent)
	if last := list[len(list)-1]; last != (Command{256, 3, 15, 4093}) {
		t.Errorf("the last command is %v", last)
	}
}
