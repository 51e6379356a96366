package bitmap

import (
	"math"
	"testing"
)

// wantLevels: a bit of a higher level is set where the word below it has one set,
// and nowhere else, and what lies behind the places is free.
func wantLevels(t *testing.T, b *Bitmap) {
	t.Helper()
	for level, words := range b.levels {
		below := b.places
		told := func(i int) bool { return b.Has(i) }
		if level > 0 {
			below = len(b.levels[level-1])
			told = func(i int) bool { return b.levels[level-1][i] != 0 }
		}
		if want := (below + 63) / 64; len(words) != want {
			t.Fatalf("level %d of %d places: %d words; want %d", level, b.places, len(words), want)
		}
		for i := range len(words) * 64 {
			if got, want := words[i/64]>>(i%64)&1 == 1, i < below && told(i); got != want {
				t.Fatalf("level %d of %d places: bit %d: %v", level, b.places, i, got)
			}
		}
	}
}

// P4.1: words lie over words, up to one of them, and no more than the places need,
// whatever is asked for.
func TestLevels(t *testing.T) {
	for _, x := range []struct{ n, levels int }{
		{math.MinInt, 0}, {-1, 0}, {0, 0}, {1, 1}, {64, 1}, {65, 2}, {4096, 2}, {4097, 3}, {5000, 3}, {5001, 3}, {math.MaxInt, 3},
	} {
		b := New(x.n)
		if len(b.levels) != x.levels {
			t.Fatalf("%d: %d levels; want %d", x.n, len(b.levels), x.levels)
		}
		wantLevels(t, b)
		for _, on := range []bool{true, false} {
			for i := -3; i < b.places+70; i += 1 + i*i%37 {
				b.Set(i, on)
				b.Set(i, on)
				if i%11 == 0 {
					wantLevels(t, b)
				}
			}
			wantLevels(t, b)
		}
		if b.Count() != 0 {
			t.Fatalf("%d: %d left", x.n, b.Count())
		}
	}
}

// A bitmap that nobody made has no places.
func TestZero(t *testing.T) {
	var b Bitmap
	b.Set(0, true)
	if _, ok := b.Next(0); ok || b.Has(0) || b.Count() != 0 {
		t.Fatal("places of none")
	}
}
