package guest

import (
	"runtime"
	"strconv"
	"strings"
	"testing"

	"mailcoach/api"
)

// many are so many guests, tags from 0 on.
func many(n int) *Guests {
	g := New()
	for i := range n {
		g.Add(tagged(i))
	}
	return g
}

func tagged(n int) api.Guest { return api.Guest{Tag: strconv.Itoa(n)} }

// wantTurn: the turn is at a seat that is taken; of none at the first one.
func wantTurn(t *testing.T, g *Guests) {
	t.Helper()
	if rank := rankOf(g.turn); rank < 0 || rank >= max(1, len(g.row)) || seatOf(rank) != g.turn {
		t.Fatalf("of %d guests the turn is at %v", len(g.row), g.turn)
	}
}

// P18.1: seats tell every place back, also far off.
func TestSeatsAreExact(t *testing.T) {
	for shift := range 32 {
		for off := -2; off <= 2; off++ {
			rank := max(0, 1<<shift+off)
			seat := seatOf(rank)
			if rankOf(seat) != rank || real(seat) >= stretch || int(real(seat)) != rank%stretch || int(imag(seat)) != rank/stretch {
				t.Fatalf("the seat of %d: %v", rank, seat)
			}
		}
	}
}

// P18.1: where there were many once their room isn't held for ever, however they went, and
// the turn is at one of those that are left.
func TestRoomIsGivenBack(t *testing.T) {
	const most = 1 << 10
	for way, tag := range []func(i int) int{
		func(i int) int { return i },
		func(i int) int { return most - 1 - i },
		func(i int) int { return (i*3 + 7) % most },
	} {
		for _, turn := range []int{0, 1, most / 2, most - 1} {
			g := many(most)
			g.turnTo(turn)
			for i := range most {
				x := tagged(tag(i))
				if !g.Drop(x.Conn, x.Chan, x.Tag) {
					t.Fatalf("way %d: no %s", way, x.Tag)
				}
				wantTurn(t, g)
				if room := cap(g.row); len(g.row) != most-1-i || room > max(leastRoom, 4*(len(g.row)+1)) {
					t.Fatalf("way %d: room for %d, %d guests", way, room, len(g.row))
				}
			}
		}
	}
}

// P18.1: where guests come and go at one length they aren't laid anew each time.
func TestRoomStaysAtOneLength(t *testing.T) {
	for length := range 200 {
		g := many(length + 1)
		moved, was := 0, cap(g.row)
		look := func() {
			if cap(g.row) != was {
				moved, was = moved+1, cap(g.row)
			}
		}
		for i := range 50 {
			g.Drop(0, 0, strconv.Itoa(length+i))
			look()
			g.Add(tagged(length + i + 1))
			look()
		}
		if moved > 1 {
			t.Fatalf("%d guests were moved %d times", length, moved)
		}
	}
}

// P18.1: what went isn't held any more, nor are the long texts from which short ones were
// cut, nor what was refused.
func TestNothingMoreIsHeld(t *testing.T) {
	const long = 1 << 20
	text := func(n int) string { return strings.Repeat("e", long) + "k" + strconv.Itoa(n) }
	g := New()
	before := heldBytes()
	for i := range 40 {
		g.Add(api.Guest{Tag: text(i)[long:]})
		g.Add(api.Guest{Tag: text(i)[long:], Most: 1})
		g.Drop(0, 0, text(i))
	}
	for i := range 40 {
		g.Add(api.Guest{Tag: text(i)})
	}
	for i := range 40 {
		g.Drop(0, 0, text(i))
	}
	spare := make([]bool, 20*long)
	g.Pick(spare)
	spare = nil
	if grown := heldBytes() - before; grown > 10*long {
		t.Errorf("%d bytes are held for %d short texts", grown, g.Len())
	}
	if x := g.All()[7]; x.Tag != "k7" || g.Len() != 40 {
		t.Errorf("%v of %d", x, g.Len())
	}
}

// heldBytes tells how many bytes can't be given back.
func heldBytes() int {
	var m runtime.MemStats
	runtime.GC()
	runtime.ReadMemStats(&m)
	return int(m.HeapAlloc)
}
