package ranges_test

import (
	"math"
	"slices"
	"testing"

	"mailcoach/api"
	"mailcoach/ranges"
)

type rows = [][2]int

// wantRows asks for a set in every way that doesn't change it: the whole of it,
// and what lies at and beside the ends of each row.
func wantRows(t *testing.T, r *ranges.Ranges, want rows) {
	t.Helper()
	if got := r.All(); !slices.Equal(got, want) {
		t.Fatalf("rows %v; want %v", got, want)
	}
	count := 0
	for i, row := range want {
		count += row[1] - row[0] + 1
		for _, n := range []int{row[0], row[1], (row[0] + row[1]) / 2} {
			if !r.Has(n) {
				t.Fatalf("%v hasn't %d", want, n)
			}
		}
		for _, n := range []int{row[0] - 1, row[1] + 1} { // no two rows touch
			if r.Has(n) {
				t.Fatalf("%v has %d (row %d)", want, n, i)
			}
		}
	}
	for _, n := range []int{math.MinInt, -api.MaxTime, -1, 0, api.MaxTime + 1, math.MaxInt} {
		if r.Has(n) {
			t.Fatalf("%v has %d", want, n)
		}
	}
	if r.Count() != count {
		t.Fatalf("%v: %d; want %d", want, r.Count(), count)
	}
	n, ok := r.Least()
	if len(want) == 0 && (n != 0 || ok) || len(want) > 0 && (n != want[0][0] || !ok) {
		t.Fatalf("least of %v: %d, %v", want, n, ok)
	}
}

func wantUpto(t *testing.T, r *ranges.Ranges, n int, want []int) {
	t.Helper()
	if got := r.Upto(n); !slices.Equal(got, want) {
		t.Fatalf("Upto(%d): %v; want %v", n, got, want)
	}
}

func wantChange(t *testing.T, call string, got, want int) {
	t.Helper()
	if got != want {
		t.Fatalf("%s: %d; want %d", call, got, want)
	}
}

// of makes a set of rows.
func of(t *testing.T, all rows) *ranges.Ranges {
	t.Helper()
	r := ranges.New()
	for _, row := range all {
		wantChange(t, "Add", r.Add(row[0], row[1]), row[1]-row[0]+1)
	}
	wantRows(t, r, all)
	return r
}

// span lists the numbers from lo to hi.
func span(lo, hi int) []int {
	var l []int
	for n := lo; n <= hi; n++ {
		l = append(l, n)
	}
	return l
}

// P3.1: the example: Add 1..3, Add 4..4: 1..4.
func TestExample(t *testing.T) {
	r := ranges.New()
	wantChange(t, "Add(1, 3)", r.Add(1, 3), 3)
	wantChange(t, "Add(4, 4)", r.Add(4, 4), 1)
	wantRows(t, r, rows{{1, 4}})
}

// P3.1: a new set has nothing; nor has one of which all was cut, and it goes on
// from there.
func TestNothing(t *testing.T) {
	r := ranges.New()
	for turn := range 3 {
		wantRows(t, r, nil)
		for _, n := range []int{math.MinInt, -1, 0, 1, api.MaxTime, math.MaxInt} {
			wantUpto(t, r, n, nil)
		}
		wantChange(t, "Cut of nothing", r.Cut(math.MinInt, math.MaxInt), 0)
		wantRows(t, r, nil)
		for n := range 20 {
			wantChange(t, "Add", r.Add(3*n+1, 3*n+2), 2)
		}
		if turn == 0 {
			wantChange(t, "Cut of all", r.Cut(1, api.MaxTime), 40)
			continue
		}
		for n := range 20 {
			wantChange(t, "Cut", r.Cut(3*n, 3*n+2), 2)
		}
	}
	wantRows(t, r, nil)
}

// P3.1: Add, one way of lying to what is there after the other.
func TestAdd(t *testing.T) {
	there := rows{{10, 12}, {20, 20}, {30, 33}}
	for _, c := range []struct {
		lo, hi, more int
		want         rows
	}{
		{1, 1, 1, rows{{1, 1}, {10, 12}, {20, 20}, {30, 33}}}, // ahead of all
		{1, 8, 8, rows{{1, 8}, {10, 12}, {20, 20}, {30, 33}}}, // one is between
		{1, 9, 9, rows{{1, 12}, {20, 20}, {30, 33}}},          // touches
		{9, 9, 1, rows{{9, 12}, {20, 20}, {30, 33}}},          // touches, one
		{5, 11, 5, rows{{5, 12}, {20, 20}, {30, 33}}},         // over the beginning
		{10, 12, 0, there}, // the same
		{11, 11, 0, there}, // within
		{20, 20, 0, there}, // the same, one
		{9, 13, 2, rows{{9, 13}, {20, 20}, {30, 33}}},             // around
		{12, 13, 1, rows{{10, 13}, {20, 20}, {30, 33}}},           // over the end
		{13, 13, 1, rows{{10, 13}, {20, 20}, {30, 33}}},           // touches behind
		{14, 18, 5, rows{{10, 12}, {14, 18}, {20, 20}, {30, 33}}}, // between, touches none
		{13, 18, 6, rows{{10, 18}, {20, 20}, {30, 33}}},           // touches the one
		{14, 19, 6, rows{{10, 12}, {14, 20}, {30, 33}}},           // touches the other one
		{13, 19, 7, rows{{10, 20}, {30, 33}}},                     // touches both
		{12, 20, 7, rows{{10, 20}, {30, 33}}},                     // over both
		{11, 32, 16, rows{{10, 33}}},                              // over all
		{12, 28, 15, rows{{10, 28}, {30, 33}}},                    // over two, none is touched
		{13, 29, 16, rows{{10, 33}}},                              // around one, touches two
		{1, 50, 42, rows{{1, 50}}},                                // around all
		{34, 34, 1, rows{{10, 12}, {20, 20}, {30, 34}}},           // touches the last one
		{35, 40, 6, rows{{10, 12}, {20, 20}, {30, 33}, {35, 40}}}, // behind all
	} {
		r := of(t, there)
		wantChange(t, "Add", r.Add(c.lo, c.hi), c.more)
		wantRows(t, r, c.want)
		wantChange(t, "Add once more", r.Add(c.lo, c.hi), 0)
		wantRows(t, r, c.want)
	}
}

// P3.1: Cut, one way of lying to what is there after the other.
func TestCut(t *testing.T) {
	there := rows{{10, 14}, {20, 20}, {30, 33}}
	for _, c := range []struct {
		lo, hi, less int
		want         rows
	}{
		{1, 9, 0, there},   // ahead of all
		{15, 19, 0, there}, // between
		{34, 99, 0, there}, // behind all
		{1, 10, 1, rows{{11, 14}, {20, 20}, {30, 33}}},            // the first one
		{10, 10, 1, rows{{11, 14}, {20, 20}, {30, 33}}},           // the first one alone
		{14, 14, 1, rows{{10, 13}, {20, 20}, {30, 33}}},           // the last one alone
		{14, 19, 1, rows{{10, 13}, {20, 20}, {30, 33}}},           // the last one
		{12, 12, 1, rows{{10, 11}, {13, 14}, {20, 20}, {30, 33}}}, // the middle one
		{11, 13, 3, rows{{10, 10}, {14, 14}, {20, 20}, {30, 33}}}, // all but the ends
		{10, 14, 5, rows{{20, 20}, {30, 33}}},                     // a whole row
		{9, 15, 5, rows{{20, 20}, {30, 33}}},                      // around a row
		{20, 20, 1, rows{{10, 14}, {30, 33}}},                     // a row of one
		{12, 31, 6, rows{{10, 11}, {32, 33}}},                     // from row to row
		{14, 30, 3, rows{{10, 13}, {31, 33}}},                     // from row to row, one of each
		{1, 31, 8, rows{{32, 33}}},                                // all but the end
		{11, 99, 9, rows{{10, 10}}},                               // all but the beginning
		{10, 33, 10, nil},                                         // all
		{1, 99, 10, nil},                                          // around all
	} {
		r := of(t, there)
		wantChange(t, "Cut", r.Cut(c.lo, c.hi), c.less)
		wantRows(t, r, c.want)
		wantChange(t, "Cut once more", r.Cut(c.lo, c.hi), 0)
		wantRows(t, r, c.want)
		wantChange(t, "Add of what was cut", r.Add(c.lo, c.hi), c.hi-c.lo+1)
		if !r.Has(c.lo) || !r.Has(c.hi) {
			t.Fatalf("%d..%d isn't there again", c.lo, c.hi)
		}
	}
}

// P3.1: nothing is done if hi is below lo.
func TestHiBelowLo(t *testing.T) {
	there := rows{{1, 4}, {8, 9}, {api.MaxTime, api.MaxTime}}
	r := of(t, there)
	for _, c := range [][2]int{
		{2, 1}, {5, 4}, {6, 5}, {9, 8}, {8, 1}, {9, 0}, {1, 0}, {0, -1}, {api.MaxTime, 1},
		{api.MaxTime + 1, api.MaxTime}, {math.MaxInt, 1}, {1, math.MinInt}, {math.MaxInt, math.MinInt},
		{math.MaxInt, math.MaxInt - 1}, {math.MinInt + 1, math.MinInt},
	} {
		wantChange(t, "Add", r.Add(c[0], c[1]), 0)
		wantRows(t, r, there)
		wantChange(t, "Cut", r.Cut(c[0], c[1]), 0)
		wantRows(t, r, there)
	}
}

// P3.1: numbers below 1 and above MaxTime are none: they are neither added nor
// cut nor counted, the others of a range are.
func TestOnlyFrom1ToMaxTime(t *testing.T) {
	r := ranges.New()
	for _, c := range [][2]int{
		{0, 0}, {-1, 0}, {-5, -2}, {math.MinInt, 0}, {math.MinInt, math.MinInt},
		{api.MaxTime + 1, api.MaxTime + 1}, {api.MaxTime + 1, math.MaxInt}, {math.MaxInt, math.MaxInt},
	} {
		wantChange(t, "Add of none", r.Add(c[0], c[1]), 0)
		wantRows(t, r, nil)
	}
	wantChange(t, "Add", r.Add(0, 1), 1)
	wantChange(t, "Add", r.Add(api.MaxTime, api.MaxTime+1), 1)
	wantRows(t, r, rows{{1, 1}, {api.MaxTime, api.MaxTime}})
	wantChange(t, "Add", r.Add(math.MinInt, 2), 1)
	wantChange(t, "Add", r.Add(api.MaxTime-1, math.MaxInt), 1)
	wantRows(t, r, rows{{1, 2}, {api.MaxTime - 1, api.MaxTime}})
	wantChange(t, "Cut of none", r.Cut(math.MinInt, 0), 0)
	wantChange(t, "Cut of none", r.Cut(api.MaxTime+1, math.MaxInt), 0)
	wantRows(t, r, rows{{1, 2}, {api.MaxTime - 1, api.MaxTime}})
	wantChange(t, "Cut", r.Cut(-7, 1), 1)
	wantChange(t, "Cut", r.Cut(api.MaxTime, api.MaxTime+7), 1)
	wantRows(t, r, rows{{2, 2}, {api.MaxTime - 1, api.MaxTime - 1}})
	wantChange(t, "Add of all", r.Add(math.MinInt, math.MaxInt), api.MaxTime-2)
	wantRows(t, r, rows{{1, api.MaxTime}})
	wantChange(t, "Cut of all", r.Cut(math.MinInt, math.MaxInt), api.MaxTime)
	wantRows(t, r, nil)
}

// P3.1: Upto: none that is above n, rising, of one row and of many.
func TestUpto(t *testing.T) {
	r := of(t, rows{{1, 3}, {5, 5}, {7, 8}, {api.MaxTime, api.MaxTime}})
	for n, want := range [][]int{nil, {1}, {1, 2}, {1, 2, 3}, {1, 2, 3}, {1, 2, 3, 5}, {1, 2, 3, 5}, {1, 2, 3, 5, 7}, {1, 2, 3, 5, 7, 8}, {1, 2, 3, 5, 7, 8}} {
		wantUpto(t, r, n, want)
	}
	wantUpto(t, r, math.MinInt, nil)
	wantUpto(t, r, -1, nil)
	wantUpto(t, r, api.MaxTime-1, []int{1, 2, 3, 5, 7, 8})
	for _, n := range []int{api.MaxTime, api.MaxTime + 1, math.MaxInt} {
		wantUpto(t, r, n, []int{1, 2, 3, 5, 7, 8, api.MaxTime})
	}
	wantUpto(t, of(t, rows{{500, 502}}), 499, nil)
	wantUpto(t, of(t, rows{{500, 502}}), 501, []int{500, 501})
}

// P3.1: Upto tells the first 1000: at 999, at 1000, at one more, at many more.
func TestUptoOfMany(t *testing.T) {
	whole := of(t, rows{{1, api.MaxTime}})
	for _, n := range []int{999, 1000, 1001, api.MaxTime, math.MaxInt} {
		wantUpto(t, whole, n, span(1, min(n, 1000)))
	}
	two := of(t, rows{{11, 1009}, {2000, 2000}, {3000, 4000}}) // the 1000th is a row of its own
	wantUpto(t, two, 1999, span(11, 1009))
	for _, n := range []int{2000, 2001, 3000, 5000, math.MaxInt} {
		wantUpto(t, two, n, append(span(11, 1009), 2000))
	}
	odd := ranges.New()
	var want []int
	for n := 1; n < 4000; n += 2 {
		odd.Add(n, n)
		want = append(want, n)
	}
	wantUpto(t, odd, 1997, want[:999])
	wantUpto(t, odd, 1998, want[:999])
	wantUpto(t, odd, 1999, want[:1000])
	wantUpto(t, odd, 2001, want[:1000])
	wantUpto(t, odd, math.MaxInt, want[:1000])
	if got := odd.All(); len(got) != 2000 || got[1999] != [2]int{3999, 3999} { // All has no such end
		t.Fatalf("%d rows", len(got))
	}
}

// P3.1: asking changes nothing.
func TestAskingChangesNothing(t *testing.T) {
	there := rows{{2, 4}, {6, 6}, {8, 3000}}
	r := of(t, there)
	for n := range 12 {
		r.Upto(n)
		r.Has(n)
		r.Least()
		r.Count()
		r.All()
		wantRows(t, r, there)
	}
}

// P3.1: what All and Upto answer is new memory, its spare room too.
func TestAnswersAreNew(t *testing.T) {
	for length := range 40 {
		r := ranges.New()
		var want rows
		var numbers []int
		for n := 1; n <= length; n++ {
			r.Add(3*n, 3*n)
			want = append(want, [2]int{3 * n, 3 * n})
			numbers = append(numbers, 3*n)
		}
		a, b := r.All(), r.All()
		c, d := r.Upto(math.MaxInt), r.Upto(math.MaxInt)
		a, c = a[:cap(a)], c[:cap(c)]
		for i := range a {
			a[i] = [2]int{-1, -1}
		}
		for i := range c {
			c[i] = -1
		}
		wantRows(t, r, want)
		wantUpto(t, r, math.MaxInt, numbers)
		r.Add(1, 1)
		r.Cut(3, 3)
		r.Add(7, 11)
		r.Cut(1, 50)
		if !slices.Equal(b, want) || !slices.Equal(d, numbers) {
			t.Fatalf("of %d: an earlier answer was touched: %v, %v", length, b, d)
		}
	}
}

// P3.1: one set doesn't know of another one.
func TestSetsAreApart(t *testing.T) {
	a, b := ranges.New(), ranges.New()
	a.Add(1, 9)
	wantRows(t, b, nil)
	b.Add(4, 5)
	a.Cut(5, 5)
	wantRows(t, a, rows{{1, 4}, {6, 9}})
	wantRows(t, b, rows{{4, 5}})
}

// P3.2: as with sets: in whatever order the same is added, it is the same; and
// in whatever order it is cut, nothing is left of it.
func TestOrderPlaysNoPart(t *testing.T) {
	const most = 101 // a prime: each step but 0 goes through all
	for step := 1; step < most; step++ {
		r := ranges.New()
		there := make([]bool, most+2)
		for i := range most {
			n := i*step%most + 1
			wantChange(t, "Add", r.Add(n, n), 1)
			there[n] = true
			wantRows(t, r, rowsOf(there))
		}
		wantRows(t, r, rows{{1, most}})
		for i := range most {
			n := i*step%most + 1
			wantChange(t, "Cut", r.Cut(n, n), 1)
			there[n] = false
			wantRows(t, r, rowsOf(there))
		}
	}
}

// rowsOf tells the rows of a plain set.
func rowsOf(there []bool) rows {
	var l rows
	for n, ok := range there {
		if ok && there[n-1] {
			l[len(l)-1][1] = n
		} else if ok {
			l = append(l, [2]int{n, n})
		}
	}
	return l
}

// P3.2: as with sets: every set of six numbers, with every range added and cut,
// at the low end, in the middle, at the high end.
func TestEverySmallSet(t *testing.T) {
	const wide = 6
	for _, first := range []int{1, 50, api.MaxTime - wide + 1} {
		for bits := range 1 << wide {
			for lo := -1; lo <= wide; lo++ {
				for hi := -1; hi <= wide; hi++ {
					checkSmallSet(t, first, wide, bits, lo, hi)
				}
			}
		}
	}
}

func checkSmallSet(t *testing.T, first, wide, bits, lo, hi int) {
	t.Helper()
	fresh := func() *ranges.Ranges {
		r := ranges.New()
		for n := range wide {
			if bits>>n&1 == 1 {
				r.Add(first+n, first+n)
			}
		}
		return r
	}
	added, cut := 0, 0
	more, less := fresh(), fresh()
	gotMore, gotLess := more.Add(first+lo, first+hi), less.Cut(first+lo, first+hi)
	for n := -1; n <= wide; n++ {
		number := first + n
		was := n >= 0 && bits>>n&1 == 1
		within := lo <= n && n <= hi && number >= 1 && number <= api.MaxTime
		if within && was {
			cut++
		}
		if within && !was {
			added++
		}
		if more.Has(number) != (was || within) || less.Has(number) != (was && !within) {
			t.Fatalf("set %b from %d, %d..%d: has %d: %v, %v", bits, first, lo, hi, number, more.Has(number), less.Has(number))
		}
	}
	was := fresh().Count()
	if gotMore != added || gotLess != cut || more.Count() != was+added || less.Count() != was-cut {
		t.Fatalf("set %b from %d, %d..%d: %d more, %d less, %d, %d", bits, first, lo, hi, gotMore, gotLess, more.Count(), less.Count())
	}
}

// P3.2: as with sets: whatever is done, it is what a plain set is.
func TestAsAPlainSet(t *testing.T) {
	const most = 400
	r := ranges.New()
	there := make([]bool, most+2)
	seed := 1
	next := func(n int) int {
		seed = (seed*1103515245 + 12345) % (1 << 31)
		return seed / 65536 % n
	}
	for step := range 20000 {
		lo := next(most+20) - 10
		hi := lo + next(12) - 2
		if step%97 == 0 {
			hi = lo + next(most)
		}
		hi = min(hi, most)
		add := next(10) < 3+4*(step/2000%2) // times of more cutting, of more adding
		changed := 0
		for n := max(lo, 1); n <= hi; n++ {
			if there[n] != add {
				there[n] = add
				changed++
			}
		}
		if add {
			wantChange(t, "Add", r.Add(lo, hi), changed)
		} else {
			wantChange(t, "Cut", r.Cut(lo, hi), changed)
		}
		want := rowsOf(there)
		wantRows(t, r, want)
		n := next(most + 20)
		var upto []int
		for _, row := range want {
			upto = append(upto, span(row[0], min(row[1], n))...)
		}
		wantUpto(t, r, n, upto)
	}
}

// P3.2: as with sets: a set of many rows, made from its end to its beginning,
// is joined to one by the numbers between.
func TestManyRows(t *testing.T) {
	const most = 40000
	r := ranges.New()
	for n := most; n > 0; n -= 2 {
		wantChange(t, "Add", r.Add(n, n), 1)
	}
	if n, ok := r.Least(); r.Count() != most/2 || len(r.All()) != most/2 || n != 2 || !ok {
		t.Fatalf("%d in %d rows", r.Count(), len(r.All()))
	}
	for n := 1; n < most; n += 2 {
		wantChange(t, "Add", r.Add(n, n), 1)
	}
	wantRows(t, r, rows{{1, most}})
}
