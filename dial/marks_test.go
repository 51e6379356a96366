package dial

import (
	"math"
	"testing"
)

// wantHeap: no mark is ahead of the one above it, each knows where it lies and is
// found by its ID, and the room behind holds none.
func wantHeap(t *testing.T, d *Dial) {
	t.Helper()
	if len(d.heap) != len(d.marks) {
		t.Fatalf("%d marks lie, %d are known", len(d.heap), len(d.marks))
	}
	for i, m := range d.heap {
		if m.at != i || d.marks[m.id] != m {
			t.Fatalf("mark %d of %d: %+v", i, len(d.heap), *m)
		}
		if i > 0 && m.isAhead(d.heap[(i-1)/2]) {
			t.Fatalf("mark %d of %d is ahead of the one above it", i, len(d.heap))
		}
	}
	for i, m := range d.heap[len(d.heap):cap(d.heap)] {
		if m != nil {
			t.Fatalf("%d behind %d marks: %+v", i, len(d.heap), *m)
		}
	}
}

// P5.1: the marks are in order whatever is done.
func TestHeap(t *testing.T) {
	seed := 8
	next := func(n int) int {
		seed = (seed*1103515245 + 12345) % (1 << 31)
		return (seed >> 8) % n
	}
	d := New()
	for step := range 20000 {
		id := next(150)
		switch act := next(10); {
		case act < 6 && step/500%2 == 0 || act == 0: // times of more and times of fewer
			d.Set(id, next(60))
		case act < 9:
			d.Clear(id)
		default:
			d.Due(next(20))
		}
		wantHeap(t, d)
	}
}

// P5.1: places tell every time back, and tell times apart as ints do.
func TestPlacesAreExact(t *testing.T) {
	var times []int
	for shift := range 64 {
		for off := -3; off <= 3; off++ {
			times = append(times, 1<<shift+off, -1<<shift+off)
		}
	}
	for half := -1 << 31; half < 1<<31; half += 1<<25 - 1 {
		times = append(times, half*keptSpokes, half*keptSpokes+keptSpokes-1, half*keptSpokes+half&math.MaxInt32)
	}
	for i, a := range times {
		place := Turn(a, keptSpokes)
		if got := timeAt(place); got != a {
			t.Fatalf("the place of %d tells %d", a, got)
		}
		for _, b := range times[:i] {
			if isAhead(place, Turn(b, keptSpokes)) != (a < b) || isAhead(Turn(b, keptSpokes), place) != (b < a) {
				t.Fatalf("the places of %d and %d", a, b)
			}
		}
	}
}

// P5.1: a dial that had many marks once doesn't hold their room for ever, and is
// the same behind it.
func TestRoomIsGivenBack(t *testing.T) {
	const most = 1 << 12
	ends := []func(d *Dial, i int){
		func(d *Dial, i int) { d.Clear(i) },
		func(d *Dial, i int) { d.Clear(most - 1 - i) },
		func(d *Dial, i int) { d.Due(i) },
	}
	for _, end := range ends {
		d := New()
		for id := range most {
			d.Set(id, id)
		}
		for i := range most {
			end(d, i)
			if room := cap(d.heap); d.Len() != most-1-i || room > max(leastRoom, 4*(d.Len()+1)) {
				t.Fatalf("room for %d, %d marks", room, d.Len())
			}
			if i%100 == 0 || i > most-40 {
				wantHeap(t, d)
			}
		}
	}
}

// P5.1: a dial that goes to and fro at one length isn't laid anew each time.
func TestRoomStaysAtOneLength(t *testing.T) {
	for length := range 200 {
		d := New()
		for id := range length {
			d.Set(id, id)
		}
		d.Set(length, 0)
		d.Clear(length)
		moved, was := 0, cap(d.heap)
		for range 50 {
			d.Set(length, length/2)
			if cap(d.heap) != was {
				moved, was = moved+1, cap(d.heap)
			}
			d.Clear(length)
			if cap(d.heap) != was {
				moved, was = moved+1, cap(d.heap)
			}
		}
		if moved > 1 {
			t.Fatalf("a dial of %d was moved %d times", length, moved)
		}
	}
}

// A dial that nobody made goes as a new one.
func TestZero(t *testing.T) {
	var d Dial
	if _, ok := d.Next(); ok || d.Clear(1) || d.Len() != 0 || len(d.Due(9)) != 0 {
		t.Fatal("something is due")
	}
	d.Set(1, 2)
	if due := d.Due(2); len(due) != 1 || due[0] != 1 {
		t.Fatal(due)
	}
}
