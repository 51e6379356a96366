package ring_test

import (
	"math"
	"slices"
	"testing"

	"mailcoach/ring"
)

// wantRow asks for a row in every way that doesn't change it.
func wantRow(t *testing.T, r *ring.Ring, want []int) {
	t.Helper()
	if got := r.All(); !slices.Equal(got, want) || r.Len() != len(want) {
		t.Fatalf("row %v of %d; want %v of %d", got, r.Len(), want, len(want))
	}
	for i, n := range want {
		if got, ok := r.At(i); got != n || !ok {
			t.Fatalf("At(%d): %d, %v; want %d", i, got, ok, n)
		}
	}
	for _, i := range []int{math.MinInt, math.MinInt + 1, -len(want), -2, -1, len(want), len(want) + 1, 2*len(want) + 8, math.MaxInt32, math.MaxInt - 1, math.MaxInt} {
		if i >= 0 && i < len(want) {
			continue
		}
		if got, ok := r.At(i); got != 0 || ok {
			t.Fatalf("At(%d) of %d: %d, %v", i, len(want), got, ok)
		}
	}
}

func wantTaken(t *testing.T, call string, take func() (int, bool), want int) {
	t.Helper()
	if got, ok := take(); got != want || !ok {
		t.Fatalf("%s: %d, %v; want %d", call, got, ok, want)
	}
}

func wantNothing(t *testing.T, r *ring.Ring) {
	t.Helper()
	for range 3 {
		if n, ok := r.Pop(); n != 0 || ok {
			t.Fatalf("Pop of nothing: %d, %v", n, ok)
		}
		if n, ok := r.Shift(); n != 0 || ok {
			t.Fatalf("Shift of nothing: %d, %v", n, ok)
		}
		wantRow(t, r, nil)
	}
}

// P2.1: the example: Push 1, Unshift 2: 2, 1.
func TestExample(t *testing.T) {
	r := ring.New()
	r.Push(1)
	r.Unshift(2)
	wantRow(t, r, []int{2, 1})
}

// P2.1: a new ring has nothing; nor has one of which all was taken, and it goes
// on from there.
func TestNothing(t *testing.T) {
	r := ring.New()
	wantNothing(t, r)
	for length := range 70 {
		for n := range length {
			r.Push(n + 1)
		}
		for n := range length {
			wantTaken(t, "Shift", r.Shift, n+1)
		}
		wantNothing(t, r)
		for n := range length {
			r.Unshift(n + 1)
		}
		for n := range length {
			wantTaken(t, "Pop", r.Pop, n+1)
		}
		wantNothing(t, r)
		r.Unshift(7)
		wantTaken(t, "Shift of one", r.Shift, 7)
		r.Push(8)
		wantTaken(t, "Pop of one", r.Pop, 8)
		wantNothing(t, r)
	}
}

// P2.1: Push goes behind all, at every length.
func TestPush(t *testing.T) {
	r := ring.New()
	var want []int
	for n := range 300 {
		r.Push(n)
		want = append(want, n)
		wantRow(t, r, want)
	}
}

// P2.1: Unshift goes ahead of all, at every length.
func TestUnshift(t *testing.T) {
	r := ring.New()
	var want []int
	for n := range 300 {
		r.Unshift(n)
		want = slices.Insert(want, 0, n)
		wantRow(t, r, want)
	}
}

// P2.1: Pop takes the last one, Shift the first one, at every length.
func TestPopAndShift(t *testing.T) {
	for _, ahead := range []int{0, 1, 7, 8, 9, 100, 200} { // so many were laid ahead of all
		r := ring.New()
		var want []int
		for n := range 200 {
			if n < ahead {
				r.Unshift(n)
				want = slices.Insert(want, 0, n)
			} else {
				r.Push(n)
				want = append(want, n)
			}
		}
		for turn := 0; len(want) > 0; turn++ {
			if turn%3 == 0 {
				wantTaken(t, "Pop", r.Pop, want[len(want)-1])
				want = want[:len(want)-1]
			} else {
				wantTaken(t, "Shift", r.Shift, want[0])
				want = want[1:]
			}
			wantRow(t, r, want)
		}
		wantNothing(t, r)
	}
}

// P2.1: every number may lie in a row, one as often as one likes; a 0 that lies
// there is told from nothing.
func TestEveryNumber(t *testing.T) {
	numbers := []int{0, 0, math.MinInt, -1, math.MaxInt, 1, 0, -1, math.MinInt, 1 << 40, 0}
	r := ring.New()
	for i := range numbers {
		r.Push(numbers[i])
	}
	wantRow(t, r, numbers)
	for i := range numbers {
		wantTaken(t, "Shift", r.Shift, numbers[i])
	}
	wantNothing(t, r)
	for i := range numbers {
		r.Unshift(numbers[i])
	}
	for i := range numbers {
		wantTaken(t, "Pop", r.Pop, numbers[i])
	}
	wantNothing(t, r)
}

// P2.1: At, All and Len change nothing, and At of what isn't there neither.
func TestAskingChangesNothing(t *testing.T) {
	r := ring.New()
	for n := range 40 {
		r.Push(n)
		r.Unshift(-n)
		want := r.All()
		for range 3 {
			wantRow(t, r, want)
		}
	}
}

// P2.1: what All answers is new memory, its spare room too.
func TestAllIsNew(t *testing.T) {
	for length := range 40 {
		r := ring.New()
		var want []int
		for n := range length {
			r.Push(n + 1)
			want = append(want, n+1)
		}
		a, b := r.All(), r.All()
		for i := range a {
			a[i] = -1
		}
		spare := a[:cap(a)]
		for i := range spare {
			spare[i] = -2
		}
		if !slices.Equal(b, want) {
			t.Fatalf("of %d: another answer was touched: %v", length, b)
		}
		wantRow(t, r, want)
		r.Shift()
		r.Push(-3)
		r.Unshift(-4)
		r.Pop()
		if !slices.Equal(b, want) {
			t.Fatalf("of %d: an earlier answer was touched: %v", length, b)
		}
	}
}

// P2.1: one ring doesn't know of another one.
func TestRingsAreApart(t *testing.T) {
	a, b := ring.New(), ring.New()
	for n := range 20 {
		a.Push(n)
	}
	wantNothing(t, b)
	b.Push(5)
	a.Shift()
	a.Pop()
	wantRow(t, b, []int{5})
	wantRow(t, a, []int{1, 2, 3, 4, 5, 6, 7, 8, 9, 10, 11, 12, 13, 14, 15, 16, 17, 18})
}

// P2.2: as a row: first in, first out, also when it goes round many times at
// every length, either way.
func TestGoesRound(t *testing.T) {
	for length := 1; length <= 70; length++ {
		r := ring.New()
		var want []int
		for n := range length {
			r.Push(n)
			want = append(want, n)
		}
		for n := range 3 * length {
			wantTaken(t, "Shift", r.Shift, want[0])
			r.Push(1000 + n)
			want = append(want[1:], 1000+n)
			wantRow(t, r, want)
		}
		for n := range 5 * length {
			wantTaken(t, "Pop", r.Pop, want[len(want)-1])
			r.Unshift(2000 + n)
			want = slices.Insert(want[:len(want)-1], 0, 2000+n)
			wantRow(t, r, want)
		}
	}
}

// P2.2: as a row: it gets longer and shorter from wherever it begins in its
// cells, at either end.
func TestLongerAndShorterFromEverywhere(t *testing.T) {
	for turns := range 40 {
		for way := range 4 {
			r := ring.New()
			r.Push(0)
			for range turns {
				r.Push(0)
				r.Shift()
			}
			want := []int{0}
			for n := 1; n < 70; n++ {
				if way%2 == 0 {
					r.Push(n)
					want = append(want, n)
				} else {
					r.Unshift(n)
					want = slices.Insert(want, 0, n)
				}
			}
			wantRow(t, r, want)
			for len(want) > 0 {
				if way/2 == 0 {
					wantTaken(t, "Pop", r.Pop, want[len(want)-1])
					want = want[:len(want)-1]
				} else {
					wantTaken(t, "Shift", r.Shift, want[0])
					want = want[1:]
				}
				wantRow(t, r, want)
			}
		}
	}
}

// P2.2: as a row: whatever is done, it is what a plain list is.
func TestAsAPlainList(t *testing.T) {
	r := ring.New()
	var want []int
	seed := 1
	next := func(n int) int {
		seed = (seed*1103515245 + 12345) % (1 << 31)
		return seed / 65536 % n
	}
	for step := range 60000 {
		act := next(6)
		if step/1500%2 == 1 && act > 3 { // times of more taking than laying
			act -= 4
		}
		switch act {
		case 0:
			n, ok := r.Pop()
			if ok != (len(want) > 0) || ok && n != want[len(want)-1] || !ok && n != 0 {
				t.Fatalf("step %d: Pop: %d, %v", step, n, ok)
			}
			want = want[:max(len(want)-1, 0)]
		case 1:
			n, ok := r.Shift()
			if ok != (len(want) > 0) || ok && n != want[0] || !ok && n != 0 {
				t.Fatalf("step %d: Shift: %d, %v", step, n, ok)
			}
			want = want[min(len(want), 1):]
		case 2, 4:
			r.Push(step)
			want = append(want, step)
		default:
			r.Unshift(step)
			want = slices.Insert(want, 0, step)
		}
		if r.Len() != len(want) {
			t.Fatalf("step %d: %d; want %d", step, r.Len(), len(want))
		}
		if step%50 == 0 {
			wantRow(t, r, want)
		}
	}
	wantRow(t, r, want)
}

// P2.2: as a row: a long one comes out as it went in.
func TestLong(t *testing.T) {
	const length = 1 << 17
	r := ring.New()
	for n := range length {
		r.Push(n)
		r.Unshift(-n)
	}
	if r.Len() != 2*length {
		t.Fatalf("%d long", r.Len())
	}
	for n := length - 1; n >= 0; n-- {
		wantTaken(t, "Pop", r.Pop, n)
		wantTaken(t, "Shift", r.Shift, -n)
	}
	wantNothing(t, r)
}
