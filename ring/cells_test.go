package ring

import "testing"

// P2.1: a row that was long once doesn't hold its cells for ever, and a row
// that goes on at one length doesn't take more and more of them.
func TestCellsFollowTheRow(t *testing.T) {
	const most = 1 << 12
	r := New()
	for n := range most {
		r.Push(n)
	}
	for turn := range 10 * most { // the row goes round and round its cells
		r.Push(turn)
		r.Shift()
	}
	if n := len(r.cells); n > 4*most {
		t.Fatalf("%d cells for a row of %d", n, most)
	}
	for r.Len() > 0 {
		if r.Len()%2 == 0 {
			r.Pop()
		} else {
			r.Shift()
		}
		if n := len(r.cells); n > max(leastCells, 4*(r.Len()+1)) {
			t.Fatalf("%d cells for a row of %d", n, r.Len())
		}
	}
}

// P2.1: a row that goes to and fro at one length isn't laid anew each time.
func TestCellsStayAtOneLength(t *testing.T) {
	for length := range 300 {
		r := New()
		for n := range length {
			r.Push(n)
		}
		r.Push(0)
		r.Shift()
		moved, was := 0, len(r.cells)
		look := func() {
			if len(r.cells) != was {
				moved, was = moved+1, len(r.cells)
			}
		}
		for range 100 {
			r.Unshift(1)
			look()
			r.Pop()
			look()
		}
		if moved > 1 {
			t.Fatalf("a row of %d was moved %d times", length, moved)
		}
	}
}
