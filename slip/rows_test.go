package slip

import (
	"runtime"
	"strconv"
	"strings"
	"testing"

	"mailcoach/api"
)

// wantInStep: the set has the tags of those that are held, each consumer is counted that
// has some, and nothing else is there.
func wantInStep(t *testing.T, s *Slips) {
	t.Helper()
	counts := map[string]int{}
	for tag, x := range s.held {
		if x.Tag != tag || !s.set().Has(tag) {
			t.Fatalf("%d is held as %v; in the set: %v", tag, x, s.set().Has(tag))
		}
		counts[x.Consumer]++
	}
	if n := s.set().Count(); n != len(s.held) || s.most < n || len(s.counts) != len(counts) {
		t.Fatalf("%d in the set, %d held, %d were; %d consumers, want %d", n, len(s.held), s.most, len(s.counts), len(counts))
	}
	for consumer, n := range counts {
		if s.counts[consumer] != n {
			t.Fatalf("%q: %d; want %d", consumer, s.counts[consumer], n)
		}
	}
}

// many are so many slips, tags from 1 on, of so many consumers.
func many(n, consumers int) *Slips {
	s := New()
	for i := range n {
		s.Add(api.Slip{Tag: i + 1, Consumer: "c" + strconv.Itoa(i%consumers)})
	}
	return s
}

// P17.1: where there were many once their room isn't held for ever, however they went, and
// all is the same behind it.
func TestRoomIsGivenBack(t *testing.T) {
	const most = 1 << 11
	for way, end := range []func(s *Slips, i int){
		func(s *Slips, i int) { s.Take(i + 1) },
		func(s *Slips, i int) { s.Take(most - i) },
		func(s *Slips, i int) { s.Take(i*3%most + 1) },
		func(s *Slips, i int) { s.Upto(i + 1) },
	} {
		for _, consumers := range []int{1, 7, most} {
			s := many(most, consumers)
			for i := range most {
				end(s, i)
				if left := s.Len(); left != most-1-i || s.most > max(leastRoom, 4*(left+1)) {
					t.Fatalf("way %d: room for %d, %d slips", way, s.most, left)
				}
				if i%100 == 0 || i > most-40 {
					wantInStep(t, s)
				}
			}
		}
	}
}

// P17.1: the memory itself is given back, of the slips and of their consumers, also where
// some come while most go.
func TestMemoryIsGivenBack(t *testing.T) {
	const most, little = 1 << 14, 1 << 17
	before := heldBytes()
	s := many(most, most)
	if grown := heldBytes() - before; grown < 20*little {
		t.Errorf("%d bytes for %d slips", grown, most)
	}
	for n := range most - 100 {
		s.Take(n + 1)
		s.Add(api.Slip{Tag: n + 1})
		s.Take(n + 1)
	}
	if grown := heldBytes() - before; grown > little {
		t.Errorf("%d bytes are held for %d slips", grown, s.Len())
	}
	wantInStep(t, s)
}

// P17.1: where slips come and go at one length they aren't laid anew each time.
func TestRoomStaysAtOneLength(t *testing.T) {
	for length := range 200 {
		s := many(4*length, 3)
		s.Upto(3 * length)
		moved, was := 0, s.most
		look := func() {
			if s.most != was {
				moved, was = moved+1, s.most
			}
		}
		for range 50 {
			s.Take(4 * length)
			look()
			s.Add(api.Slip{Tag: 4 * length})
			look()
		}
		if moved > 2 { // given back once, and one more behind that
			t.Fatalf("%d slips were moved %d times", length, moved)
		}
	}
}

// P17.1: what went isn't held any more, nor are the long texts from which short ones were
// cut, nor what was refused.
func TestNothingMoreIsHeld(t *testing.T) {
	const long = 1 << 20
	text := func(n int) string { return strings.Repeat("e", long) + "k" + strconv.Itoa(n) }
	s := New()
	before := heldBytes()
	for i := 1; i <= 40; i++ {
		consumer, exchange, key := text(i), text(i), text(i)
		s.Add(api.Slip{Tag: i, Consumer: consumer[long:], Entry: api.Entry{Exchange: exchange[:1], Key: key[long:]}})
		s.Add(api.Slip{Tag: i, Consumer: text(i)})
		s.Add(api.Slip{Tag: -i, Consumer: text(i)})
	}
	if grown := heldBytes() - before; grown > 10*long {
		t.Errorf("%d bytes are held for %d short texts", grown, 3*s.Len())
	}
	if x, _ := s.Take(7); x.Consumer != "k7" || x.Entry.Exchange != "e" || x.Entry.Key != "k7" {
		t.Errorf("%v", x)
	}
	for i := 41; i <= 80; i++ {
		s.Add(api.Slip{Tag: i, Consumer: text(i), Entry: api.Entry{Exchange: text(i), Key: text(i)}})
	}
	for i := 41; i <= 60; i++ {
		s.Take(i)
	}
	s.Upto(80)
	if grown := heldBytes() - before; grown > 10*long {
		t.Errorf("%d bytes are held of what went", grown)
	}
	// Where most slips stay, the texts of those that went are let go likewise.
	s = many(100, 3)
	before = heldBytes()
	for i := 101; i <= 140; i++ {
		s.Add(api.Slip{Tag: i, Consumer: text(i), Entry: api.Entry{Exchange: text(i), Key: text(i)}})
		s.Take(i)
	}
	if grown := heldBytes() - before; grown > 10*long {
		t.Errorf("%d bytes are held of what went", grown)
	}
	runtime.KeepAlive(s)
}

// heldBytes tells how many bytes can't be given back.
func heldBytes() int {
	var m runtime.MemStats
	runtime.GC()
	runtime.ReadMemStats(&m)
	return int(m.HeapAlloc)
}
