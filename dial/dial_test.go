package dial_test

import (
	"math"
	"slices"
	"testing"

	"mailcoach/dial"
)

// odd: numbers at which times and IDs might go wrong: the ends of all ints, where
// floats begin to round, where a half of an int ends.
var odd = []int{
	math.MinInt, math.MinInt + 1, math.MinInt + 2, -1<<62 - 1, -1 << 62, -1<<53 - 1, -1 << 53, -1<<50 - 1, -1 << 50,
	-1<<32 - 1, -1 << 32, -1<<32 + 1, -1<<31 - 1, -1 << 31, -2, -1, 0, 1, 2, 1<<31 - 1, 1 << 31, 1<<32 - 1, 1 << 32, 1<<32 + 1,
	1 << 50, 1<<50 + 1, 1 << 53, 1<<53 + 1, 1<<53 + 2, 1 << 62, 1<<62 + 1, math.MaxInt - 2, math.MaxInt - 1, math.MaxInt,
}

// plain is a dial as a plain list: the time of each ID that is due.
type plain map[int]int

// due tells which are due and takes them out.
func (p plain) due(now int) []int {
	var due []int
	for id, time := range p {
		if time <= now {
			due = append(due, id)
		}
	}
	slices.SortFunc(due, func(a, b int) int {
		if p[a] < p[b] || p[a] == p[b] && a < b {
			return -1
		}
		return 1
	})
	for _, id := range due {
		delete(p, id)
	}
	return due
}

func (p plain) next() (int, bool) {
	least, ok := 0, false
	for _, time := range p {
		if !ok || time < least {
			least, ok = time, true
		}
	}
	return least, ok
}

// of makes a dial of pairs of ID and time, and the plain one.
func of(pairs ...[2]int) (*dial.Dial, plain) {
	d, p := dial.New(), plain{}
	for _, x := range pairs {
		d.Set(x[0], x[1])
		p[x[0]] = x[1]
	}
	return d, p
}

func wantNext(t *testing.T, d *dial.Dial, want int, wantOK bool) {
	t.Helper()
	if got, ok := d.Next(); got != want || ok != wantOK {
		t.Fatalf("Next: %d, %v; want %d, %v", got, ok, want, wantOK)
	}
}

func wantWhen(t *testing.T, d *dial.Dial, id, want int, wantOK bool) {
	t.Helper()
	if got, ok := d.When(id); got != want || ok != wantOK {
		t.Fatalf("When(%d): %d, %v; want %d, %v", id, got, ok, want, wantOK)
	}
}

func wantDue(t *testing.T, d *dial.Dial, now int, want ...int) {
	t.Helper()
	if got := d.Due(now); !slices.Equal(got, want) {
		t.Fatalf("Due(%d): %v; want %v", now, got, want)
	}
}

func wantLen(t *testing.T, d *dial.Dial, want int) {
	t.Helper()
	if got := d.Len(); got != want {
		t.Fatalf("Len: %d; want %d", got, want)
	}
}

// wantSame asks for all that a dial tells without being changed.
func wantSame(t *testing.T, d *dial.Dial, p plain) {
	t.Helper()
	wantLen(t, d, len(p))
	for id, time := range p {
		wantWhen(t, d, id, time, true)
	}
	for _, id := range odd {
		time, ok := p[id]
		wantWhen(t, d, id, time, ok)
	}
	least, ok := p.next()
	wantNext(t, d, least, ok)
}

// P5.1: a new one: nothing is due.
func TestNew(t *testing.T) {
	d := dial.New()
	wantSame(t, d, nil)
	for _, n := range odd {
		wantDue(t, d, n)
		if d.Clear(n) {
			t.Fatalf("Clear(%d) of none", n)
		}
	}
	wantSame(t, d, nil)
}

// P5.1: Set: an ID is due at its time, not ahead of it, and once.
func TestSet(t *testing.T) {
	d, p := of([2]int{7, 100})
	wantSame(t, d, p)
	wantDue(t, d, 99)
	wantSame(t, d, p)
	wantDue(t, d, 100, 7)
	wantSame(t, d, nil)
	wantDue(t, d, 100)
	wantDue(t, d, math.MaxInt)
	d.Set(7, 50) // and again, at a time that was ahead of what was asked for
	wantDue(t, d, 49)
	wantDue(t, d, 1000, 7)
	wantSame(t, d, nil)
}

// P5.1: Set of an ID that has a time: it has the new one, and the old one no longer.
func TestSetAnotherTime(t *testing.T) {
	for _, x := range []struct{ old, new int }{
		{10, 20}, {20, 10}, {10, 10}, {-5, 5}, {5, -5}, {0, 0},
		{math.MinInt, math.MaxInt}, {math.MaxInt, math.MinInt}, {math.MaxInt, math.MaxInt - 1}, {1 << 53, 1<<53 + 1},
	} {
		d, p := of([2]int{1, x.old}, [2]int{1, x.new})
		wantSame(t, d, p)
		if x.new > math.MinInt {
			wantDue(t, d, x.new-1)
		}
		wantSame(t, d, p)
		wantDue(t, d, x.new, 1)
		wantSame(t, d, nil)
		wantDue(t, d, math.MaxInt)
	}
}

// P5.1: of many each one may go ahead of all or behind all, and the others stay.
func TestSetAmongMany(t *testing.T) {
	for n := 1; n < 20; n++ {
		for id := range n {
			for _, time := range []int{-1, 0, 5, 6, 10 * n, 10*n + 1} {
				d, p := dial.New(), plain{}
				for i := range n {
					d.Set(i, 10*(i*7%n))
					p[i] = 10 * (i * 7 % n)
				}
				d.Set(id, time)
				p[id] = time
				wantSame(t, d, p)
				wantDue(t, d, math.MaxInt, p.due(math.MaxInt)...)
			}
		}
	}
}

// P5.1: Clear: it isn't due; false, if it wasn't.
func TestClear(t *testing.T) {
	d, p := of([2]int{1, 10}, [2]int{2, 20}, [2]int{3, 5}, [2]int{0, 0})
	for _, id := range []int{4, -1, 10, 20, 5} { // times are no IDs
		if d.Clear(id) {
			t.Fatalf("Clear(%d): it was due", id)
		}
		wantSame(t, d, p)
	}
	for _, id := range []int{2, 3, 0, 1} {
		if !d.Clear(id) {
			t.Fatalf("Clear(%d): it wasn't due", id)
		}
		delete(p, id)
		wantSame(t, d, p)
		if d.Clear(id) {
			t.Fatalf("Clear(%d) twice: it was due", id)
		}
		wantSame(t, d, p)
	}
	wantDue(t, d, math.MaxInt)
	d.Set(2, 7) // cleared once doesn't mean for ever
	wantDue(t, d, 7, 2)
	if d.Clear(2) {
		t.Fatal("Clear of what was told as due")
	}
}

// P5.1: of many each one may be cleared, and the others stay in order.
func TestClearAmongMany(t *testing.T) {
	for n := 1; n < 40; n++ {
		for id := range n {
			d, p := dial.New(), plain{}
			for i := range n {
				d.Set(i, i*17%n)
				p[i] = i * 17 % n
			}
			if !d.Clear(id) {
				t.Fatalf("Clear(%d) of %d", id, n)
			}
			delete(p, id)
			wantSame(t, d, p)
			wantDue(t, d, math.MaxInt, p.due(math.MaxInt)...)
		}
	}
}

// P5.1: Due: by time, of one time by ID, whatever the order in which they were set.
func TestDueInOrder(t *testing.T) {
	pairs := [][2]int{{5, 10}, {2, 10}, {-4, 10}, {9, 3}, {1, 20}, {0, 10}, {7, -2}, {math.MaxInt, 10}, {math.MinInt, 10}, {6, 3}}
	want := []int{7, 6, 9, math.MinInt, -4, 0, 2, 5, math.MaxInt, 1}
	for turn := range pairs {
		d, _ := of(append(slices.Clone(pairs[turn:]), pairs[:turn]...)...)
		wantDue(t, d, 20, want...)
		wantLen(t, d, 0)
		slices.Reverse(pairs)
		d, _ = of(pairs...)
		wantDue(t, d, -3)
		wantDue(t, d, -2, want[:1]...)
		wantDue(t, d, 9, want[1:3]...)
		wantDue(t, d, 19, want[3:9]...)
		wantLen(t, d, 1)
		wantDue(t, d, 20, want[9])
	}
}

// P5.1: all ints are times and IDs; none is held for its neighbour.
func TestOddTimes(t *testing.T) {
	for turn := range odd {
		d, p := dial.New(), plain{}
		for i := range odd {
			at := (i*5 + turn) % len(odd)
			d.Set(odd[len(odd)-1-at], odd[at])
			p[odd[len(odd)-1-at]] = odd[at]
		}
		for i, now := range odd {
			if left := len(odd) - i; d.Len() != left {
				t.Fatalf("%d left; want %d", d.Len(), left)
			}
			wantSame(t, d, p)
			wantNext(t, d, now, true)
			if now > math.MinInt && (i == 0 || odd[i-1] < now-1) {
				wantDue(t, d, now-1)
			}
			wantDue(t, d, now, p.due(now)...)
		}
		wantSame(t, d, nil)
	}
}

// P5.1: what lies close together far off is told apart.
func TestCloseTogether(t *testing.T) {
	for _, base := range []int{math.MinInt, math.MinInt + 1<<32 - 20, -1<<53 - 20, -1<<32 - 20, -20, 1<<32 - 20, 1<<50 - 20, 1<<53 - 20, 1<<62 - 20, math.MaxInt - 40} {
		d := dial.New()
		for i := range 41 {
			at := i * 13 % 41
			d.Set(-at, base+at) // later ones have lower IDs
		}
		for at := range 41 {
			wantWhen(t, d, -at, base+at, true)
			wantNext(t, d, base+at, true)
			wantDue(t, d, base+at, -at)
		}
		wantLen(t, d, 0)
	}
}

// P5.1: a list that was answered is the caller's own.
func TestAnswersAreApart(t *testing.T) {
	d, p := of([2]int{1, 1}, [2]int{2, 2}, [2]int{3, 3}, [2]int{4, 4}, [2]int{5, 5}, [2]int{6, 5})
	first := d.Due(3)
	was := slices.Clone(first)
	p.due(3)
	for i := range first[:cap(first)] {
		first[:cap(first)][i] = -77
	}
	wantSame(t, d, p)
	copy(first, was)
	second := d.Due(9)
	d.Set(8, 1)
	d.Set(9, 2)
	third := d.Due(9)
	if !slices.Equal(first, []int{1, 2, 3}) || !slices.Equal(second, []int{4, 5, 6}) || !slices.Equal(third, []int{8, 9}) {
		t.Fatalf("%v, %v, %v", first, second, third)
	}
}

// P5.1: two dials don't touch each other.
func TestApart(t *testing.T) {
	a, p := of([2]int{1, 10}, [2]int{2, 20})
	b, q := of([2]int{1, 15}, [2]int{3, 30})
	wantSame(t, a, p)
	wantSame(t, b, q)
	b.Clear(1)
	delete(q, 1)
	a.Set(3, 1)
	p[3] = 1
	wantSame(t, a, p)
	wantSame(t, b, q)
	wantDue(t, b, 100, 3)
	wantSame(t, a, p)
}

// P5.1: whatever is done, a dial is what a plain list would be.
func TestAsAPlainList(t *testing.T) {
	seed := 5
	next := func(n int) int {
		seed = (seed*1103515245 + 12345) % (1 << 31)
		return (seed >> 8) % n
	}
	for _, x := range []struct{ ids, times int }{{1, 3}, {3, 2}, {10, 1}, {10, 100}, {100, 7}, {300, 1000}} {
		d, p := dial.New(), plain{}
		for step := range 6000 {
			id, time := next(x.ids)-x.ids/2, next(x.times)-x.times/2
			switch act := next(20); {
			case act < 12-step/1000:
				d.Set(id, time)
				p[id] = time
			case act < 19:
				_, was := p[id]
				if d.Clear(id) != was {
					t.Fatalf("step %d: Clear(%d): %v", step, id, !was)
				}
				delete(p, id)
			default:
				now := time - x.times/3
				wantDue(t, d, now, p.due(now)...)
			}
			want, ok := p[id]
			wantWhen(t, d, id, want, ok)
			wantLen(t, d, len(p))
			if step%20 == 0 {
				wantSame(t, d, p)
			}
		}
		wantDue(t, d, math.MaxInt, p.due(math.MaxInt)...)
		wantSame(t, d, nil)
	}
}

// P5.1: many of them take no long search.
func TestMany(t *testing.T) {
	const many = 1 << 17
	d := dial.New()
	for i := range many {
		d.Set(i, i*40503%many)
		wantNext(t, d, 0, true)
	}
	for i := range many {
		d.Set(i, i*65537%many)
	}
	for i := 1; i < many; i += 2 {
		d.Clear(i)
	}
	wantLen(t, d, many/2)
	told := 0
	for now := range many {
		for _, id := range d.Due(now) {
			if id*65537%many != now {
				t.Fatalf("%d came at %d", id, now)
			}
			told++
		}
	}
	if told != many/2 {
		t.Fatalf("%d came; want %d", told, many/2)
	}
}

// P5.2: Turn at what the document names.
func TestTurn(t *testing.T) {
	for _, x := range []struct {
		time, spokes int
		want         complex128
	}{
		{7, 3, 1 + 2i}, // the chapter's example
		{0, 1, 0}, {0, 5, 0}, {1, 5, 1}, {4, 5, 4}, {5, 5, 1i}, {6, 5, 1 + 1i},
		{-1, 5, 4 - 1i}, {-4, 5, 1 - 1i}, {-5, 5, -1i}, {-6, 5, 4 - 2i}, {-10, 5, -2i}, {-7, 3, 2 - 3i},
		{9, 1, 9i}, {-9, 1, -9i}, {2, 9, 2}, {-2, 9, 7 - 1i},
		{1 << 50, 1, complex(0, 1<<50)}, {-1 << 50, 1, complex(0, -1<<50)},
		{1 << 50, 2, complex(0, 1<<49)}, {1<<50 - 1, 2, complex(1, 1<<49-1)}, {-1<<50 + 1, 2, complex(1, -1<<49)},
		{1 << 50, 1 << 50, 1i}, {1<<50 - 1, 1 << 50, 1<<50 - 1}, {-1 << 50, 1 << 50, -1i},
		{-1<<50 + 1, 1 << 50, 1 - 1i}, {-1, 1 << 50, 1<<50 - 1 - 1i}, {-1 << 50, 1<<50 - 1, 1<<50 - 2 - 2i},
		{1 << 50, 3, complex(1, (1<<50-1)/3)}, {-1 << 50, 3, complex(2, -(1<<50+2)/3)},
		{9, 0, 0}, {9, -1, 0}, {-9, -3, 0}, {0, 0, 0}, {1 << 50, -1 << 50, 0}, {9, math.MinInt, 0}, {math.MinInt, -1, 0}, {math.MinInt, 0, 0},
	} {
		got := dial.Turn(x.time, x.spokes)
		if got != x.want {
			t.Errorf("Turn(%d, %d): %v; want %v", x.time, x.spokes, got, x.want)
		}
		if math.Signbit(real(got)) || imag(got) == 0 && math.Signbit(imag(got)) {
			t.Errorf("Turn(%d, %d): %v: a 0 below 0", x.time, x.spokes, got)
		}
	}
}

// P5.2: going round the dial: a spoke on at each time, and a turn on at spoke 0.
func TestTurnRound(t *testing.T) {
	for spokes := 1; spokes < 40; spokes++ {
		spoke, turn := 0, -7
		for time := -7 * spokes; time < 7*spokes; time++ {
			if got := dial.Turn(time, spokes); got != complex(float64(spoke), float64(turn)) {
				t.Fatalf("Turn(%d, %d): %v; want spoke %d of turn %d", time, spokes, got, spoke, turn)
			}
			if spoke++; spoke == spokes {
				spoke, turn = 0, turn+1
			}
		}
	}
}

// P5.2: up to 2 to the power of 50 nothing is rounded: the time can be told from its place.
func TestTurnIsExact(t *testing.T) {
	const most = 1 << 50
	seed := 6
	next := func() int {
		seed = (seed*6364136223846793005 + 1442695040888963407)
		return seed >> 13 // from -2^50 below 2^50
	}
	for range 100000 {
		time, spokes := next(), max(1, next()&(most-1)>>(uint(next())%50))
		got := dial.Turn(time, spokes)
		spoke, turn := int(real(got)), int(imag(got))
		if spoke < 0 || spoke >= spokes || turn*spokes+spoke != time {
			t.Fatalf("Turn(%d, %d): %v", time, spokes, got)
		}
	}
}

// P5.2: beyond it nothing is promised, but that the call comes back.
func TestTurnComesBack(t *testing.T) {
	for _, time := range odd {
		for _, spokes := range odd {
			if got := dial.Turn(time, spokes); spokes < 1 && got != 0 {
				t.Fatalf("Turn(%d, %d): %v", time, spokes, got)
			}
		}
	}
}

// P5.3: each comes at its time: at the first tick that isn't below it, once.
func TestEachAtItsTime(t *testing.T) {
	for _, pace := range []int{1, 3, 10} {
		d, p := dial.New(), plain{}
		for id := range 200 {
			d.Set(id, id*31%157)
			p[id] = id * 31 % 157
		}
		came := 0
		for now := 0; now < 170; now += pace {
			for _, id := range d.Due(now) {
				if p[id] > now || p[id] <= now-pace {
					t.Fatalf("pace %d: %d came at %d; its time is %d", pace, id, now, p[id])
				}
				wantWhen(t, d, id, 0, false)
				came++
			}
			if least, ok := d.Next(); ok && least <= now {
				t.Fatalf("%d is behind %d still", least, now)
			}
		}
		if came != len(p) || d.Len() != 0 {
			t.Fatalf("pace %d: %d came, %d left", pace, came, d.Len())
		}
	}
}

// P5.3: who is put off comes later, who is brought forward earlier, who is cleared not at all.
func TestPutOff(t *testing.T) {
	d, _ := of([2]int{1, 10}, [2]int{2, 20}, [2]int{3, 30}, [2]int{4, 20})
	var came [][2]int
	for now := range 60 {
		switch now {
		case 5:
			d.Set(1, 40)
		case 9:
			d.Set(3, 12)
		case 19:
			d.Clear(4)
		case 25:
			d.Set(2, 25) // a second time for one that came
		case 50:
			d.Set(3, 7) // its time is over already
		}
		for _, id := range d.Due(now) {
			came = append(came, [2]int{now, id})
		}
	}
	if want := [][2]int{{12, 3}, {20, 2}, {25, 2}, {40, 1}, {50, 3}}; !slices.Equal(came, want) {
		t.Fatalf("%v; want %v", came, want)
	}
}

// P5.3: one that beats: each time it comes it is set anew.
func TestBeats(t *testing.T) {
	d := dial.New()
	beats := []int{0, 2, 3, 5}
	for id, beat := range beats {
		if id > 0 {
			d.Set(id, beat)
		}
	}
	for now := 1; now <= 60; now++ {
		var want []int
		for id := range beats {
			if id > 0 && now%beats[id] == 0 {
				want = append(want, id)
			}
		}
		wantDue(t, d, now, want...)
		for _, id := range want {
			d.Set(id, now+beats[id])
		}
		wantLen(t, d, 3)
	}
}
