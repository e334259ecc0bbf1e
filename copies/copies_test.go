package copies

import (
	"testing"

	"wring/api"
)

func TestLength(t *testing.T) {
	for k, want := range [][2]int{{3, 0}, {4, 0}, {5, 0}, {6, 0}, {7, 0}, {8, 0}, {9, 0}, {10, 0}, {11, 1}, {13, 2}, {17, 3}, {25, 4}, {41, 5}, {73, 6}, {137, 7}, {265, 8}} {
		least, more := Length(k)
		if least != want[0] || more != want[1] {
			t.Errorf("Length(%d) = %d, %d, want %v", k, least, more, want)
		}
	}
}

func TestDistance(t *testing.T) {
	next := 1
	for d := Near; d < api.Far; d++ {
		least, more := Distance(d)
		if least != next || more != d-Near {
			t.Errorf("Distance(%d) = %d, %d, want %d, %d", d, least, more, next, d-Near)
		}
		next = least + 1<<more
	}
	if next != api.MaxBlock {
		t.Errorf("the greatest distance is %d", next-1)
	}
}

// TestForLength: each length has the one symbol that tells it.
func TestForLength(t *testing.T) {
	if least, more := Length(api.Letters - First - 1); least+1<<more-1 != Longest {
		t.Errorf("the longest copy is %d", least+1<<more-1)
	}
	for length := Shortest; length <= Longest; length++ {
		k := ForLength(length)
		least, more := Length(k)
		if k < 0 || k > 15 || length < least || length >= least+1<<more {
			t.Errorf("ForLength(%d) = %d", length, k)
		}
	}
}

// TestForDistance: the same of distances.
func TestForDistance(t *testing.T) {
	for distance := 1; distance < api.MaxBlock; distance++ {
		symbol := ForDistance(distance)
		least, more := Distance(symbol)
		if symbol < Near || symbol >= api.Far || distance < least || distance >= least+1<<more {
			t.Errorf("ForDistance(%d) = %d", distance, symbol)
		}
	}
}

// TestFind: a distance that stands there twice has the first symbol.
func TestFind(t *testing.T) {
	r := NewRecent()
	r.Add(9)
	r.Add(1)
	for distance, want := range map[int]int{1: 0, 9: 1, 2: 3, 3: -1, 0: -1, -1: -1, 10: -1} {
		symbol, found := r.Find(distance)
		if found != (want >= 0) || symbol != max(want, 0) {
			t.Errorf("Find(%d) = %d, %v, want %d", distance, symbol, found, want)
		}
	}
}

func TestRecent(t *testing.T) {
	r := NewRecent()
	for _, c := range []struct {
		symbol, distance int
		then             [Near]int
	}{
		{0, 1, [Near]int{1, 2, 3, 4}},
		{3, 4, [Near]int{4, 1, 2, 3}},
		{1, 1, [Near]int{1, 4, 1, 2}},
		{2, 1, [Near]int{1, 1, 4, 1}},
		{0, 1, [Near]int{1, 1, 4, 1}},
		{1, 1, [Near]int{1, 1, 1, 4}},
	} {
		if d := r.Use(c.symbol); d != c.distance || r.distances != c.then {
			t.Errorf("Use(%d) = %d, then %v, want %d, %v", c.symbol, d, r.distances, c.distance, c.then)
		}
	}
	r.Add(9)
	if r.distances != [Near]int{9, 1, 1, 1} {
		t.Errorf("behind Add(9): %v", r.distances)
	}
}

func TestWrongSymbols(t *testing.T) {
	r := NewRecent()
	for _, symbol := range []int{-1, Near, 1 << 40} {
		if d := r.Use(symbol); d != 0 || r != NewRecent() {
			t.Errorf("Use(%d) = %d, then %v", symbol, d, r)
		}
	}
	for _, n := range []int{-1 << 40, -1, 16, 1 << 40} {
		Length(n)
		Distance(n)
		ForLength(n)
		ForDistance(n)
	}
}
