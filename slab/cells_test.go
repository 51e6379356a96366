package slab

import (
	"strings"
	"testing"
)

func spareCells(s *Slab) int {
	n := 0
	for c := s.spare; c != nil; c = c.next {
		n++
	}
	return n
}

// P1.2: room that came free is used again: however often bodies come and go,
// there are never more cells than the room has.
func TestCellsAreUsedAgain(t *testing.T) {
	s := New(300)
	for round := range 50 {
		var handles []int
		used := 0
		for _, n := range []int{200, 1, 0, 256, 31}[round%4:] {
			if h, e := s.Put(strings.Repeat("x", n)); e == 0 {
				handles = append(handles, h)
				used += Class(n)
			}
		}
		if n := spareCells(s) + used/leastClass; n > 300/leastClass {
			t.Fatalf("round %d: %d cells", round, n)
		}
		for _, h := range handles {
			s.Drop(h)
		}
		if n := spareCells(s); n < used/leastClass || n > 300/leastClass {
			t.Fatalf("round %d: %d cells are spare", round, n)
		}
	}
	if n := spareCells(s); n != 300/leastClass {
		t.Fatalf("%d cells are spare", n)
	}
}
