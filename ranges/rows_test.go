package ranges

import "testing"

// P3.2: a set that had many rows once doesn't hold their room for ever.
func TestRoomFollowsTheRows(t *testing.T) {
	const most = 1 << 12
	r := New()
	wantRoom := func() {
		t.Helper()
		if room := cap(r.rows); room > max(leastRoom, 4*(len(r.rows)+1)) {
			t.Fatalf("room for %d rows, %d are there", room, len(r.rows))
		}
	}
	for turn := range 4 {
		for n := 1; n <= most; n++ {
			r.Add(2*n, 2*n)
		}
		switch turn {
		case 0: // all at once
			r.Cut(1, 2*most)
		case 1: // joined at once
			r.Add(1, 2*most)
		case 2: // from the first one on
			for n := 1; n <= most; n++ {
				r.Cut(2*n, 2*n)
				wantRoom()
			}
		default: // joined one after the other
			for n := most; n > 0; n-- {
				r.Add(2*n-1, 2*n-1)
				wantRoom()
			}
		}
		wantRoom()
		r.Cut(1, 2*most)
		wantRoom()
	}
}

// P3.2: a set that goes to and fro isn't laid anew each time, nor is one that was
// cut to its length.
func TestRoomStaysAtOneLength(t *testing.T) {
	for length := range 300 {
		r := New()
		for n := range 4 * length {
			r.Add(2*n+10, 2*n+10)
		}
		for n := length; n < 4*length; n++ {
			r.Cut(2*n+10, 2*n+10)
		}
		moved, was := 0, cap(r.rows)
		look := func() {
			if cap(r.rows) != was {
				moved, was = moved+1, cap(r.rows)
			}
		}
		for range 100 {
			r.Add(1, 1)
			look()
			r.Cut(1, 1)
			look()
		}
		if moved > 1 {
			t.Fatalf("a set of %d rows was moved %d times", length, moved)
		}
	}
}

// P3.2: a set that grows isn't laid anew at each row.
func TestRoomGrowsAhead(t *testing.T) {
	const most = 1 << 14
	r := New()
	moved := 0
	for n := 1; n <= most; n++ {
		was := cap(r.rows)
		r.Add(2*n, 2*n)
		if cap(r.rows) != was {
			moved++
		}
	}
	if moved > 60 {
		t.Fatalf("a set of %d rows was moved %d times", most, moved)
	}
}
