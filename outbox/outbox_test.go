package outbox_test

import (
	"math"
	"strings"
	"testing"

	"mailcoach/api"
	"mailcoach/outbox"
)

// edges are ints at which something may turn.
var edges = []int{math.MinInt, math.MinInt + 1, -1 << 32, -1000001, -1000000, -256, -2, -1, 0, 1, 2, 3, 9, 10, 11, 255, 256, 999999, 1000000, 1000001, 1999999, 2000000, 2000001, 1 << 31, 1 << 32, 1<<32 + 1, math.MaxInt - 1000000, math.MaxInt - 1, math.MaxInt}

// dice is a row of numbers that look like any.
type dice uint64

// below is the next number, from 0 below n.
func (d *dice) below(n int) int {
	*d = *d*6364136223846793005 + 1442695040888963407
	return int(*d>>33) % n
}

// letters are n bytes that no shorter row of bytes makes by coming again and again: so
// no piece of them can be taken for another one that is laid at its place.
func letters(n int) string {
	b := make([]byte, n)
	d := dice(22)
	for i := range b {
		b[i] = byte(d.below(256))
	}
	return string(b)
}

// hand is an outbox of which each answer is held against what is wanted.
type hand struct {
	*testing.T
	*outbox.Outbox
}

func newHand(t *testing.T) hand { return hand{t, outbox.New()} }

// says: what it answers, asked twice, in one order and in the other one.
func (h hand) says(gone string, waits, may int, all string) {
	h.Helper()
	for range 2 {
		if s := h.Gone(); s != gone {
			h.Fatalf("Gone: %d bytes, %.60q; want %d, %.60q", len(s), s, len(gone), gone)
		}
		if n := h.Waits(); n != waits {
			h.Fatalf("Waits: %d; want %d", n, waits)
		}
		if n := h.May(); n != may {
			h.Fatalf("May: %d; want %d", n, may)
		}
		if s := h.All(); s != all {
			h.Fatalf("All: %d bytes, %.60q; want %d, %.60q", len(s), s, len(all), all)
		}
		if s := h.Gone(); s != gone {
			h.Fatalf("Gone, asked again: %.60q; want %.60q", s, gone)
		}
	}
}

// P22.1: nothing is in a new one, nor in one that nobody made; each call may be the
// first one.
func TestNew(t *testing.T) {
	for _, made := range []func() *outbox.Outbox{outbox.New, func() *outbox.Outbox { return &outbox.Outbox{} }} {
		h := hand{t, made()}
		h.says("", 0, 0, "")
		h = hand{t, made()}
		h.Put("x")
		h.says("", 1, 0, "x")
		h = hand{t, made()}
		h.Put("")
		h.says("", 0, 0, "")
		h = hand{t, made()}
		h.Grant(3)
		h.says("", 0, 3, "")
		h.Put("x")
		h.says("x", 0, 2, "x")
	}
}

// P22.1: the chapter's own example.
func TestExample(t *testing.T) {
	h := newHand(t)
	h.Grant(2)
	h.Put("abc")
	h.says("ab", 1, 0, "abc")
}

// P22.1: what may go goes at once, whichever comes first, the bytes or the grant: so
// many as were granted, no byte more, no byte less; what wasn't needed stays.
func TestGoesAtOnce(t *testing.T) {
	for size := range 40 {
		all := letters(size)
		for n := range 40 {
			went := min(size, n)
			h := newHand(t)
			h.Put(all)
			h.says("", size, 0, all)
			h.Grant(n)
			h.says(all[:went], size-went, n-went, all)
			h = newHand(t)
			h.Grant(n)
			h.says("", 0, n, "")
			h.Put(all)
			h.says(all[:went], size-went, n-went, all)
			h.Grant(1)
			more := min(size, n+1)
			h.says(all[:more], size-more, n+1-more, all)
			h.Put("!")
			more = min(size+1, n+1)
			h.says((all + "!")[:more], size+1-more, n+1-more, all+"!")
		}
	}
}

// P22.1: Put lays behind all that is there, what went and what waits; an empty text lays
// nothing, and lets nothing go.
func TestPutIsBehindAll(t *testing.T) {
	h := newHand(t)
	h.Put("de")
	h.Put("abc")
	h.says("", 5, 0, "deabc")
	h.Grant(3)
	h.says("dea", 2, 0, "deabc")
	h.Put("f")
	h.says("dea", 3, 0, "deabcf")
	for range 3 {
		h.Put("")
		h.says("dea", 3, 0, "deabcf")
	}
	h.Grant(9)
	h.says("deabcf", 0, 6, "deabcf")
	h.Put("")
	h.says("deabcf", 0, 6, "deabcf")
	h.Put("de")
	h.says("deabcfde", 0, 4, "deabcfde")
	h.Put("de")
	h.Put("de")
	h.Put("de")
	h.says("deabcfdedede", 2, 0, "deabcfdededede")
}

// P22.1: of any n: below 0 as 0, beyond MaxTime as MaxTime, and two of them together not
// beyond MaxTime either.
func TestAnyGrants(t *testing.T) {
	for _, a := range edges {
		h := newHand(t)
		h.Grant(a)
		first := min(max(a, 0), api.MaxTime)
		h.says("", 0, first, "")
		for _, b := range edges {
			h := newHand(t)
			h.Grant(a)
			h.Grant(b)
			both := min(first+min(max(b, 0), api.MaxTime), api.MaxTime)
			h.says("", 0, both, "")
			h.Put("0123456789")
			went := min(both, 10)
			h.says("0123456789"[:went], 10-went, both-went, "0123456789")
		}
	}
}

// P22.1: of any n, as some bytes wait: what goes is taken from it; a negative one takes
// nothing back.
func TestAnyGrantsAsSomeWait(t *testing.T) {
	all := "0123456789"
	for size := range 11 {
		for _, a := range edges {
			for _, b := range edges {
				h := newHand(t)
				h.Put(all[:size])
				h.Grant(a)
				left := min(max(a, 0), api.MaxTime)
				went := min(size, left)
				left -= went
				h.says(all[:went], size-went, left, all[:size])
				h.Grant(b)
				left = min(left+min(max(b, 0), api.MaxTime), api.MaxTime)
				more := min(size-went, left)
				h.says(all[:went+more], size-went-more, left-more, all[:size])
			}
		}
	}
}

// P22.1: at MaxTime, one below it and one past it, and again once some of it is gone.
func TestGrantsUpToTheLimit(t *testing.T) {
	h := newHand(t)
	h.Grant(api.MaxTime - 1)
	h.says("", 0, api.MaxTime-1, "")
	h.Grant(1)
	h.says("", 0, api.MaxTime, "")
	for _, n := range edges {
		h.Grant(n)
		h.says("", 0, api.MaxTime, "")
	}
	h.Put("a")
	h.says("a", 0, api.MaxTime-1, "a")
	h.Put("bc")
	h.says("abc", 0, api.MaxTime-3, "abc")
	h.Grant(2)
	h.says("abc", 0, api.MaxTime-1, "abc")
	h.Grant(2)
	h.says("abc", 0, api.MaxTime, "abc")
	for n := range 1000 { // however often: no more than MaxTime bytes may go
		h.Grant(n)
	}
	all := "abc" + strings.Repeat("z", api.MaxTime)
	h.Put(all[3:])
	h.says(all, 0, 0, all)
	h.Put("!")
	h.says(all, 1, 0, all+"!")
}

// P22.1: as more wait than MaxTime, a grant lets MaxTime of them go, and no more.
func TestMoreWaitThanTheLimit(t *testing.T) {
	all := letters(3*api.MaxTime + 5)
	h := newHand(t)
	h.Put(all)
	h.says("", len(all), 0, all)
	went := 0
	for _, n := range []int{api.MaxTime + 1, -1, 1, math.MaxInt, api.MaxTime - 1} {
		h.Grant(n)
		went += min(max(n, 0), api.MaxTime)
		h.says(all[:went], len(all)-went, 0, all)
	}
	h.Grant(api.MaxTime)
	h.says(all, 0, api.MaxTime-5, all)
}

// lengths: all of the lengths that a row may have at which something may turn.
func lengths() []int {
	var some []int
	for n := range 3100 {
		some = append(some, n)
	}
	for n := 4096; n <= 1<<20; n *= 2 {
		some = append(some, n-1, n, n+1)
	}
	for n := 4000; n <= api.MaxTime; n *= 5 {
		some = append(some, n-1, n, n+1)
	}
	return some
}

// P22.1, P22.2: rows of each length, laid at once, and what goes of them at each place.
func TestRowsOfEachLength(t *testing.T) {
	all := letters(1<<20 + 2)
	d := dice(2201)
	for _, size := range lengths() {
		h := newHand(t)
		h.Put(all[:size])
		went := d.below(size + 1)
		h.Grant(went)
		went = min(went, api.MaxTime)
		h.says(all[:went], size-went, 0, all[:size])
		h.Put("!")
		h.says(all[:went], size+1-went, 0, all[:size]+"!")
	}
}

// P22.1, P22.2: a row of one length in two pieces, cut at each place, and in pieces of
// each length: it is the same row, and goes the same.
func TestRowsInPieces(t *testing.T) {
	const size = 2345
	all := letters(size)
	for cut := range size + 1 {
		h := newHand(t)
		h.Put(all[:cut])
		h.Put(all[cut:])
		h.Grant(cut)
		h.says(all[:cut], size-cut, 0, all)
		h = newHand(t)
		h.Grant(size - 1)
		for at := 0; at < size; at += cut + 1 {
			h.Put(all[at:min(at+cut+1, size)])
		}
		h.says(all[:size-1], 1, 0, all)
	}
}

// P22.1, P22.2: a row that goes by ones: the bytes go in their order, each once.
func TestRowsThatGoByOnes(t *testing.T) {
	all := letters(2500)
	h := newHand(t)
	h.Put(all)
	for n := range len(all) {
		h.says(all[:n], len(all)-n, 0, all)
		h.Grant(1)
	}
	h.says(all, 0, 0, all)
	h = newHand(t)
	h.Grant(len(all))
	for n := range len(all) {
		h.says(all[:n], 0, len(all)-n, all[:n])
		h.Put(all[n : n+1])
	}
	h.says(all, 0, 0, all)
}

// P22.2: all bytes are as good as any other one.
func TestAllBytes(t *testing.T) {
	var all []byte
	for a := range 256 {
		for b := range 256 {
			all = append(all, byte(a), byte(b))
		}
	}
	h := newHand(t)
	for n := range all {
		h.Put(string(all[n : n+1]))
	}
	h.Grant(len(all) - 1)
	h.says(string(all[:len(all)-1]), 1, 0, string(all))
}

// P22.2: what goes between two looks, one behind the other, is what was put, whatever
// is put and granted in between.
func TestNothingIsLostNothingGoesTwice(t *testing.T) {
	for turn := range 20 {
		d := dice(2220 + turn)
		all := letters(3000 + 1500*turn)
		h := newHand(t)
		var went strings.Builder
		put, granted := 0, 0
		for put < len(all) {
			if n := min(d.below(40*turn+2), len(all)-put); d.below(2) == 0 {
				h.Put(all[put : put+n])
				put += n
			} else {
				h.Grant(n)
				granted += n
			}
			gone := h.Gone()
			if !strings.HasPrefix(gone, went.String()) {
				t.Fatalf("of %d bytes that went some went back", went.Len())
			}
			went.WriteString(gone[went.Len():])
			if gone != all[:min(put, granted)] || gone != went.String() {
				t.Fatalf("%d bytes went of %d, by %d", len(gone), put, granted)
			}
			if h.All() != all[:put] || len(gone)+h.Waits() != put || len(gone)+h.May() != granted {
				t.Fatalf("%d put, %d granted: %d, %d, %d", put, granted, len(gone), h.Waits(), h.May())
			}
		}
	}
}

// P22.2: what was answered isn't touched by what comes later.
func TestWhatWasAnsweredStays(t *testing.T) {
	all := letters(3000)
	h := newHand(t)
	var gone, whole []string
	for n := range 1000 {
		h.Put(all[3*n : 3*n+3])
		h.Grant(2)
		gone, whole = append(gone, h.Gone()), append(whole, h.All())
	}
	for n := range 1000 {
		if gone[n] != all[:2*n+2] || whole[n] != all[:3*n+3] {
			t.Fatalf("what was answered as %d: %d bytes, %d bytes", n, len(gone[n]), len(whole[n]))
		}
	}
}

// P22.1: outboxes don't know of other ones.
func TestOutboxesAreApart(t *testing.T) {
	a, b := newHand(t), newHand(t)
	a.Put("abc")
	b.says("", 0, 0, "")
	b.Grant(2)
	a.says("", 3, 0, "abc")
	b.Put("xyz")
	b.says("xy", 1, 0, "xyz")
	a.says("", 3, 0, "abc")
	a.Grant(5)
	a.says("abc", 0, 2, "abc")
	b.says("xy", 1, 0, "xyz")
	newHand(t).says("", 0, 0, "")
}
