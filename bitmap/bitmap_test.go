package bitmap_test

import (
	"math"
	"slices"
	"testing"

	"mailcoach/bitmap"
)

// farOff: what is no place of any bitmap.
var farOff = []int{math.MinInt, math.MinInt + 1, -5000, -65, -64, -63, -2, -1, 5000, 5001, 5055, 5056, 5119, 5120, 1 << 32, math.MaxInt - 63, math.MaxInt - 1, math.MaxInt}

// plain is a bitmap as a plain list: which of its places are set.
type plain []bool

func (p plain) set(i int, on bool) {
	if i >= 0 && i < len(p) {
		p[i] = on
	}
}

func (p plain) next(from int) (int, bool) {
	for i := max(from, 0); i < len(p); i++ {
		if p[i] {
			return i, true
		}
	}
	for i := range p {
		if p[i] {
			return i, true
		}
	}
	return 0, false
}

func (p plain) on() []int {
	var on []int
	for i, x := range p {
		if x {
			on = append(on, i)
		}
	}
	return on
}

// of makes a bitmap of n places with those of on set, and the plain one.
func of(n int, on ...int) (*bitmap.Bitmap, plain) {
	b, p := bitmap.New(n), make(plain, max(0, min(n, 5000)))
	for _, i := range on {
		b.Set(i, true)
		p.set(i, true)
	}
	return b, p
}

func wantNext(t *testing.T, b *bitmap.Bitmap, from, want int, wantOK bool) {
	t.Helper()
	if got, ok := b.Next(from); got != want || ok != wantOK {
		t.Fatalf("Next(%d): %d, %v; want %d, %v", from, got, ok, want, wantOK)
	}
}

func wantCount(t *testing.T, b *bitmap.Bitmap, want int) {
	t.Helper()
	if got := b.Count(); got != want {
		t.Fatalf("Count: %d; want %d", got, want)
	}
}

// wantSame asks for all that a bitmap tells, at and beside each of its places.
func wantSame(t *testing.T, b *bitmap.Bitmap, p plain) {
	t.Helper()
	wantCount(t, b, len(p.on()))
	for i, x := range p {
		if b.Has(i) != x {
			t.Fatalf("Has(%d) of %v: %v", i, p.on(), !x)
		}
	}
	for _, i := range append([]int{len(p), len(p) + 1, len(p) + 64}, farOff...) {
		if b.Has(i) {
			t.Fatalf("Has(%d) of %d places", i, len(p))
		}
		want, ok := p.next(i)
		wantNext(t, b, i, want, ok)
	}
	wantTurns(t, b, p)
}

// wantTurns asks from each place on; the answers are told from behind, so that many
// places take no longer than they must.
func wantTurns(t *testing.T, b *bitmap.Bitmap, p plain) {
	t.Helper()
	want, ok := p.next(len(p))
	for from := len(p) - 1; from >= 0; from-- {
		if p[from] {
			want = from
		}
		wantNext(t, b, from, want, ok)
	}
}

// P4.1: New(n) has the places from 0 below n, n held from 0 to 5000, none set.
func TestNew(t *testing.T) {
	for _, x := range []struct{ n, places int }{
		{0, 0}, {1, 1}, {2, 2}, {63, 63}, {64, 64}, {65, 65}, {127, 127}, {128, 128}, {129, 129},
		{4095, 4095}, {4096, 4096}, {4097, 4097}, {4999, 4999}, {5000, 5000},
		{5001, 5000}, {5056, 5000}, {6000, 5000}, {1 << 40, 5000}, {math.MaxInt - 63, 5000}, {math.MaxInt, 5000},
		{-1, 0}, {-64, 0}, {-5000, 0}, {math.MinInt, 0},
	} {
		b, p := of(x.n)
		wantSame(t, b, p)
		if len(p) != x.places {
			t.Fatalf("%d: %d places; want %d", x.n, len(p), x.places)
		}
		if x.places == 0 {
			continue
		}
		b.Set(x.places, true) // one behind the last one
		wantSame(t, b, p)
		b.Set(x.places-1, true) // the last one
		p.set(x.places-1, true)
		wantSame(t, b, p)
		wantNext(t, b, 0, x.places-1, true)
	}
}

// P4.1: Set(i, on), Has(i), Count(): told again nothing changes.
func TestSetAndUnset(t *testing.T) {
	b, p := of(200)
	for _, i := range []int{0, 199, 63, 64, 65, 127, 128, 191, 192, 1} {
		for range 3 {
			b.Set(i, true)
			p.set(i, true)
			wantSame(t, b, p)
		}
	}
	wantCount(t, b, 10)
	for _, i := range []int{64, 0, 2, 199, 127, 63, 65, 1, 192, 128, 191} {
		for range 3 {
			b.Set(i, false)
			p.set(i, false)
			wantSame(t, b, p)
		}
	}
	wantCount(t, b, 0)
	b.Set(77, true) // and once more, once all were unset
	p.set(77, true)
	wantSame(t, b, p)
}

// P4.1: Set does nothing of no such place, on or not.
func TestSetNoSuchPlace(t *testing.T) {
	for _, n := range []int{0, 1, 9, 63, 64, 65, 200, 4096, 5000} {
		b, p := of(n, 0, n/2, n-1)
		none := append([]int{n, n + 1, n + 63, n + 64, (n/64 + 1) * 64, -n, -n - 1, n - 128}, farOff...)
		for _, i := range none {
			if i >= 0 && i < n {
				continue
			}
			for _, on := range []bool{true, false, true} {
				b.Set(i, on)
			}
		}
		if n == 0 && len(p) != 0 {
			t.Fatal("places of none")
		}
		wantSame(t, b, p)
	}
}

// P4.1: Next: the first one set from a place on, that place too, else the first one.
func TestNext(t *testing.T) {
	b, _ := of(300, 2, 5, 63, 64, 130, 299)
	for _, x := range [][2]int{
		{0, 2}, {1, 2}, {2, 2}, {3, 5}, {5, 5}, {6, 63}, {62, 63}, {63, 63}, {64, 64}, {65, 130},
		{128, 130}, {130, 130}, {131, 299}, {255, 299}, {256, 299}, {298, 299}, {299, 299},
		{300, 2}, {301, 2}, {319, 2}, {320, 2}, {5000, 2}, {1 << 40, 2}, {math.MaxInt - 63, 2}, {math.MaxInt, 2},
		{-1, 2}, {-64, 2}, {-300, 2}, {math.MinInt, 2}, // held to 0
	} {
		wantNext(t, b, x[0], x[1], true)
	}
}

// P4.1: the one ahead of the place is the first one of all, not the nearest one.
func TestNextAhead(t *testing.T) {
	b, _ := of(5000, 7, 70, 700, 4097)
	wantNext(t, b, 4098, 7, true)
	wantNext(t, b, 4999, 7, true)
	b.Set(7, false)
	wantNext(t, b, 4098, 70, true)
	b.Set(4097, false)
	wantNext(t, b, 4096, 70, true)
	wantNext(t, b, 701, 70, true)
}

// P4.1: 0, false, if none is set; it isn't where place 0 is.
func TestNextOfNone(t *testing.T) {
	for _, n := range []int{0, 1, 64, 65, 5000} {
		b, p := of(n, 0, n-1)
		b.Set(0, false)
		b.Set(n-1, false)
		for _, from := range append([]int{0, 1, n - 1, n, n + 1}, farOff...) {
			wantNext(t, b, from, 0, false)
		}
		if len(p) == 0 {
			continue
		}
		b.Set(0, true)
		for _, from := range append([]int{0, 1, n - 1, n, n + 1}, farOff...) {
			wantNext(t, b, from, 0, true)
		}
	}
}

// P4.1: the example of the chapter.
func TestExample(t *testing.T) {
	b := bitmap.New(9)
	b.Set(2, true)
	wantNext(t, b, 3, 2, true)
}

// P4.1: one alone is found from everywhere, wherever it lies.
func TestOneAlone(t *testing.T) {
	for _, n := range []int{1, 64, 65, 130, 200} {
		b, p := of(n)
		for i := range n {
			b.Set(i, true)
			p.set(i, true)
			wantSame(t, b, p)
			b.Set(i, false)
			p.set(i, false)
		}
		wantSame(t, b, p)
	}
}

// P4.1: two, at the ends of what lies together, in the greatest one.
func TestTwoOfMany(t *testing.T) {
	ends := []int{0, 1, 63, 64, 65, 127, 4031, 4032, 4095, 4096, 4097, 4159, 4160, 4991, 4992, 4999}
	b, p := of(5000)
	for k, i := range ends {
		for _, j := range ends[:k] {
			b.Set(i, true)
			b.Set(j, true)
			p.set(i, true)
			p.set(j, true)
			wantSame(t, b, p)
			b.Set(i, false)
			p.set(i, false)
			wantSame(t, b, p)
			b.Set(j, false)
			p.set(j, false)
		}
	}
	wantSame(t, b, p)
}

// P4.1: all of them, set and unset one by one, from the first on and from the last on.
func TestAllOfMany(t *testing.T) {
	const last = 4999
	b, p := of(last + 1)
	for i := range p {
		b.Set(i, true)
		p.set(i, true)
		wantCount(t, b, i+1)
		wantNext(t, b, i, i, true)
		wantNext(t, b, i+1, 0, true)
	}
	wantSame(t, b, p)
	for i := last; i >= 0; i-- {
		b.Set(i, false)
		wantCount(t, b, i)
		wantNext(t, b, i, 0, i > 0)
		wantNext(t, b, i-1, max(i-1, 0), i > 0)
	}
	for i := last; i >= 0; i-- {
		b.Set(i, true)
		wantNext(t, b, 0, i, true)
		wantNext(t, b, last, last, true)
	}
	for i := range last {
		b.Set(i, false)
		wantNext(t, b, 0, i+1, true)
		wantNext(t, b, i, i+1, true)
	}
	b.Set(last, false)
	wantSame(t, b, make(plain, last+1))
}

// P4.1: every set of few places, from everywhere.
func TestAllOfFew(t *testing.T) {
	for n := range 9 {
		for set := range 1 << n {
			b, p := of(n)
			for i := range n {
				b.Set(i, set>>i&1 == 1)
				p.set(i, set>>i&1 == 1)
			}
			wantSame(t, b, p)
		}
	}
}

// P4.1: asking changes nothing.
func TestAskingChangesNothing(t *testing.T) {
	b, p := of(700, 3, 64, 699)
	for range 3 {
		wantSame(t, b, p)
	}
}

// P4.1: two bitmaps don't touch each other.
func TestApart(t *testing.T) {
	a, p := of(200, 1, 2, 3)
	b, q := of(200, 100)
	wantSame(t, a, p)
	wantSame(t, b, q)
	for i := range 200 {
		b.Set(i, true)
		q.set(i, true)
	}
	a.Set(2, false)
	p.set(2, false)
	wantSame(t, a, p)
	wantSame(t, b, q)
}

// P4.2: who asks behind what was told comes by all that are set, in rising order,
// round and round.
func TestRoundAndRound(t *testing.T) {
	for _, x := range []struct {
		n  int
		on []int
	}{
		{1, []int{0}}, {9, []int{2}}, {9, []int{0, 8}}, {64, []int{0, 31, 63}}, {65, []int{63, 64}},
		{200, []int{1, 2, 3, 64, 127, 128, 199}}, {5000, []int{0, 63, 64, 4095, 4096, 4999}}, {5000, []int{4096}},
	} {
		b, p := of(x.n, x.on...)
		var told, want []int
		at := 0
		for range 3 * len(x.on) {
			i, ok := b.Next(at)
			if !ok {
				t.Fatalf("%v: none from %d", x.on, at)
			}
			told = append(told, i)
			at = i + 1
		}
		for range 3 {
			want = append(want, x.on...)
		}
		if !slices.Equal(told, want) {
			t.Fatalf("%d places: %v; want %v", x.n, told, want)
		}
		wantSame(t, b, p)
	}
}

// P4.2: each that stays set comes in turn while others come and go.
func TestRoundsWhileOthersComeAndGo(t *testing.T) {
	b, p := of(300, 10, 100, 290)
	told := make([]int, 300)
	at := 0
	for step := range 900 {
		other := step * 7 % 300
		if other != 10 && other != 100 && other != 290 {
			b.Set(other, step%2 == 0)
			p.set(other, step%2 == 0)
		}
		want, wantOK := p.next(at)
		wantNext(t, b, at, want, wantOK)
		told[want]++
		at = want + 1
	}
	rounds := told[10]
	if rounds < 2 || told[100] < rounds-1 || told[100] > rounds || told[290] < rounds-1 || told[290] > rounds {
		t.Fatalf("rounds: %d, %d, %d", told[10], told[100], told[290])
	}
}

// P4.2: who is told goes; all have had their turn when none is left.
func TestEachOnce(t *testing.T) {
	on := []int{0, 5, 63, 64, 65, 1000, 4095, 4096, 4999}
	b, _ := of(5000, on...)
	var told []int
	at := 64
	for b.Count() > 0 {
		i, _ := b.Next(at)
		b.Set(i, false)
		told = append(told, i)
		at = i + 1
	}
	if want := []int{64, 65, 1000, 4095, 4096, 4999, 0, 5, 63}; !slices.Equal(told, want) {
		t.Fatalf("%v; want %v", told, want)
	}
	wantNext(t, b, at, 0, false)
}

// P4.1, P4.2: whatever is done, a bitmap is what a plain list would be.
func TestAsAPlainList(t *testing.T) {
	seed := 4
	next := func(n int) int {
		seed = (seed*1103515245 + 12345) % (1 << 31)
		return (seed >> 8) % n
	}
	for _, n := range []int{1, 3, 64, 65, 129, 1000, 4097, 5000} {
		b, p := of(n)
		for step := range 4000 {
			i := next(n+20) - 10
			on := next(10) < 1+step/500 // few of them first, nearly all at the end
			b.Set(i, on)
			p.set(i, on)
			from := next(n+20) - 10
			want, ok := p.next(from)
			wantNext(t, b, from, want, ok)
			if b.Has(from) != (from >= 0 && from < n && p[from]) {
				t.Fatalf("%d places, step %d: Has(%d)", n, step, from)
			}
			if step%200 == 0 {
				wantSame(t, b, p)
			}
		}
		wantSame(t, b, p)
		for _, i := range p.on() {
			b.Set(i, false)
			p.set(i, false)
		}
		wantSame(t, b, p)
	}
}
