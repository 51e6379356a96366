package entry_test

import (
	"math"
	"slices"
	"strings"
	"testing"

	"mailcoach/api"
	"mailcoach/entry"
)

// edges: numbers that lie at the ends of what a part may be, and far beyond, rising.
var edges = []int{
	math.MinInt, math.MinInt + 1, -1 << 62, -1 << 32, -65536, -256, -61, -17, -3, -2, -1,
	0, 1, 2, 3, 4, 5, 14, 15, 16, 59, 60, 61, 255, 256, 9999, 10000, 10001, 65536, 1000000, 1 << 32, 1<<32 + 1, 1 << 62, math.MaxInt - 1, math.MaxInt,
}

// dice is a row of numbers that look like any.
type dice uint64

// below is the next number, from 0 below n.
func (d *dice) below(n int) int {
	*d = *d*6364136223846793005 + 1442695040888963407
	return int(*d>>33) % n
}

func (d *dice) edge() int { return edges[d.below(len(edges))] }

func (d *dice) flag() bool { return d.below(2) == 1 }

func (d *dice) text(most int) string { return strings.Repeat("t", d.below(most+1)) }

// entry is any, its parts however wrong.
func (d *dice) entry() api.Entry {
	return api.Entry{
		ID: d.edge(), Body: d.edge(), Size: d.edge(), Exchange: d.text(50), Key: d.text(50), Prio: d.edge(),
		TTL: d.edge(), Until: d.edge(), Again: d.flag(), Hops: d.edge(),
	}
}

// options are any that are allowed.
func (d *dice) options() api.Options {
	return api.Options{
		Dead: d.text(12), DeadKey: d.text(40), MaxLen: d.below(61), TTL: d.below(10001), Prio: d.below(4), Bits: d.below(16),
	}
}

// wrong are any options, their parts however wrong.
func (d *dice) wrong() api.Options {
	return api.Options{
		Dead: d.text(30), DeadKey: d.text(90), MaxLen: d.edge(), TTL: d.edge(), Prio: d.edge(), Bits: d.edge(),
	}
}

// part: a number of options, and how much it is at most, by the chapter's words.
type part struct {
	name string
	most int
	with func(o api.Options, n int) api.Options
}

func parts() []part {
	return []part{
		{"MaxLen", 60, func(o api.Options, n int) api.Options { o.MaxLen = n; return o }},
		{"TTL", 10000, func(o api.Options, n int) api.Options { o.TTL = n; return o }},
		{"Prio", 3, func(o api.Options, n int) api.Options { o.Prio = n; return o }},
		{"Bits", 15, func(o api.Options, n int) api.Options { o.Bits = n; return o }},
	}
}

func wantLess(t *testing.T, a, b api.Entry, want bool) {
	t.Helper()
	if got := entry.Less(a, b); got != want {
		t.Fatalf("Less(%v, %v): %v; want %v", a, b, got, want)
	}
}

func wantGone(t *testing.T, e api.Entry, now int, want bool) {
	t.Helper()
	if got := entry.Gone(e, now); got != want {
		t.Fatalf("Gone(%v, %d): %v; want %v", e, now, got, want)
	}
}

func wantFor(t *testing.T, e api.Entry, o api.Options, now int, want api.Entry) {
	t.Helper()
	if got := entry.For(e, o, now); got != want {
		t.Fatalf("For(%v, %v, %d): %v; want %v", e, o, now, got, want)
	}
}

func wantOptions(t *testing.T, o api.Options, want bool) {
	t.Helper()
	if got := entry.IsOptions(o); got != want {
		t.Fatalf("IsOptions(%.200v): %v; want %v", o, got, want)
	}
}

func wantSame(t *testing.T, a, b api.Options, want bool) {
	t.Helper()
	if entry.SameOptions(a, b) != want || entry.SameOptions(b, a) != want {
		t.Fatalf("SameOptions(%v, %v): %v, turned round %v; want %v", a, b, entry.SameOptions(a, b), entry.SameOptions(b, a), want)
	}
}

// P14.1: Less, written out; the chapter's example is the first.
func TestLess(t *testing.T) {
	for _, x := range []struct {
		a, b api.Entry
		want bool
	}{
		{api.Entry{Prio: 2}, api.Entry{Prio: 1}, true},
		{api.Entry{Prio: 1}, api.Entry{Prio: 2}, false},
		{api.Entry{ID: 9, Prio: 2}, api.Entry{ID: 1, Prio: 1}, true},
		{api.Entry{ID: 1, Prio: 1}, api.Entry{ID: 9, Prio: 2}, false},
		{api.Entry{ID: 1, Prio: 2}, api.Entry{ID: 9, Prio: 1}, true},
		{api.Entry{ID: 4, Prio: 2}, api.Entry{ID: 5, Prio: 2}, true},
		{api.Entry{ID: 5, Prio: 2}, api.Entry{ID: 4, Prio: 2}, false},
		{api.Entry{ID: 4, Prio: 2}, api.Entry{ID: 4, Prio: 2}, false},
		{api.Entry{ID: 1}, api.Entry{ID: 2}, true},
		{api.Entry{ID: -1}, api.Entry{}, true},
		{api.Entry{}, api.Entry{Prio: -1}, true},
		{api.Entry{}, api.Entry{}, false},
	} {
		wantLess(t, x.a, x.b, x.want)
	}
}

// P14.1: Less of all numbers, the ends of ints among them: a row that is written down in
// order, each entry held against each other one. What the chapter doesn't name plays no
// part.
func TestLessAtEnds(t *testing.T) {
	d := dice(141)
	var row []api.Entry
	for at := range edges {
		for _, id := range edges {
			e := d.entry()
			e.Prio, e.ID = edges[len(edges)-1-at], id
			row = append(row, e)
		}
	}
	for i, a := range row {
		for j, b := range row {
			wantLess(t, a, b, i < j)
		}
	}
	for range 1000 {
		a, b := d.entry(), d.entry()
		b.Prio, b.ID = a.Prio, a.ID
		wantLess(t, a, b, false)
		wantLess(t, b, a, false)
	}
}

// P14.1: Gone, written out: at its time, and from then on.
func TestGone(t *testing.T) {
	for _, x := range []struct {
		until, now int
		want       bool
	}{
		{5, 4, false}, {5, 5, true}, {5, 6, true}, {1, 0, false}, {1, 1, true}, {2, 1, false},
		{0, -1, false}, {0, 0, false}, {0, 1, false}, {0, math.MaxInt, false},
		{-1, -1, false}, {-1, 0, false}, {-5, 5, false}, {-5, -4, false}, {math.MinInt, math.MinInt, false},
		{math.MaxInt, math.MaxInt - 1, false}, {math.MaxInt, math.MaxInt, true}, {1, -1, false}, {1, math.MinInt, false},
	} {
		wantGone(t, api.Entry{Until: x.until}, x.now, x.want)
	}
}

// P14.1: Gone at all ends; nothing but Until plays a part, not what its TTL says.
func TestGoneAtEnds(t *testing.T) {
	d := dice(142)
	for _, until := range edges {
		for _, now := range edges {
			e := d.entry()
			e.Until = until
			wantGone(t, e, now, until > 0 && until <= now)
			e.TTL = now
			wantGone(t, e, now, until > 0 && until <= now)
		}
	}
}

// P14.1: Limit: MaxLen where that is from 1 to 60, else 60, whatever the other parts are.
func TestLimit(t *testing.T) {
	d := dice(143)
	want := func(n, limit int) {
		t.Helper()
		other := d.wrong()
		other.MaxLen = n
		for _, o := range []api.Options{{MaxLen: n}, other} {
			if got := entry.Limit(o); got != limit {
				t.Fatalf("Limit(%v): %d; want %d", o, got, limit)
			}
		}
	}
	for n := 1; n <= 60; n++ {
		want(n, n)
		want(-n, 60)
		want(60+n, 60)
	}
	want(0, 60)
	for _, n := range edges {
		if n < 1 || n > 60 {
			want(n, 60)
		}
	}
	if entry.Limit(api.Options{MaxLen: api.MaxReady}) != api.MaxReady || entry.Limit(api.Options{}) != api.MaxReady {
		t.Error("the limit is not that of package api")
	}
}

// P14.1: IsOptions: each number from 0 to its most, whatever the others are; none below
// or above, also where no other part is wrong.
func TestIsOptions(t *testing.T) {
	d := dice(144)
	wantOptions(t, api.Options{}, true)
	wantOptions(t, api.Options{Dead: "twelve-bytes", DeadKey: strings.Repeat("k", 40), MaxLen: 60, TTL: 10000, Prio: 3, Bits: 15}, true)
	for _, p := range parts() {
		for n := range p.most + 1 {
			wantOptions(t, p.with(api.Options{}, n), true)
			wantOptions(t, p.with(d.options(), n), true)
		}
		for _, n := range append([]int{p.most + 1, p.most + 2, 2*p.most + 2, p.most - 1<<8, p.most - 1<<32}, edges...) {
			wantOptions(t, p.with(api.Options{}, n), n >= 0 && n <= p.most)
			wantOptions(t, p.with(d.options(), n), n >= 0 && n <= p.most)
		}
	}
}

// P14.1: IsOptions: Dead at most 12, DeadKey at most 40 bytes, whichever they are: bytes
// are counted, not letters, and nothing is asked of them.
func TestIsOptionsTexts(t *testing.T) {
	d := dice(145)
	for _, unit := range []string{"a", ".", " ", "#", "*", "\x00", "\xff"} {
		for n := range 100 {
			s := strings.Repeat(unit, n)
			o := d.options()
			o.Dead = s
			wantOptions(t, o, n <= 12)
			wantOptions(t, api.Options{Dead: s}, n <= 12)
			o = d.options()
			o.DeadKey = s
			wantOptions(t, o, n <= 40)
			wantOptions(t, api.Options{DeadKey: s}, n <= 40)
		}
	}
	for n := range 50 {
		s := strings.Repeat("é", n) // of two bytes
		wantOptions(t, api.Options{Dead: s}, n <= 6)
		wantOptions(t, api.Options{DeadKey: s}, n <= 20)
	}
	for _, n := range []int{255, 256, 256 + 12, 65536, 1 << 20} {
		wantOptions(t, api.Options{Dead: strings.Repeat("d", n)}, false)
		wantOptions(t, api.Options{DeadKey: strings.Repeat("d", n)}, false)
	}
}

// P14.1: IsOptions of options with any number of wrong parts.
func TestIsOptionsOfAny(t *testing.T) {
	d := dice(146)
	in := func(n, most int) bool { return n >= 0 && n <= most }
	held := 0
	for range 50000 {
		o, w := d.options(), d.wrong()
		for _, lay := range []func(){
			func() { o.Dead = w.Dead }, func() { o.DeadKey = w.DeadKey }, func() { o.MaxLen = w.MaxLen },
			func() { o.TTL = w.TTL }, func() { o.Prio = w.Prio }, func() { o.Bits = w.Bits },
		} {
			if d.below(4) == 0 {
				lay()
			}
		}
		want := in(o.MaxLen, 60) && in(o.TTL, 10000) && in(o.Prio, 3) && in(o.Bits, 15) && len(o.Dead) <= 12 && len(o.DeadKey) <= 40
		wantOptions(t, o, want)
		if want {
			held++
		}
	}
	if held < 5000 || held > 45000 {
		t.Fatalf("%d of 50000 are options: too much of a kind", held)
	}
}

// P14.1: the limits are those of package api.
func TestLimits(t *testing.T) {
	wantOptions(t, api.Options{MaxLen: api.MaxReady, TTL: api.MaxTTL, Prio: api.MaxPrio, Dead: strings.Repeat("d", api.MaxName), DeadKey: strings.Repeat("k", api.MaxKey)}, true)
	wantOptions(t, api.Options{MaxLen: api.MaxReady + 1}, false)
	wantOptions(t, api.Options{TTL: api.MaxTTL + 1}, false)
	wantOptions(t, api.Options{Prio: api.MaxPrio + 1}, false)
	wantOptions(t, api.Options{Dead: strings.Repeat("d", api.MaxName+1)}, false)
	wantOptions(t, api.Options{DeadKey: strings.Repeat("k", api.MaxKey+1)}, false)
	wantOptions(t, api.Options{Bits: api.Exclusive | api.AutoDelete | api.RejectNew | api.Passive}, true)
}

// P14.1: SameOptions: the same in all parts, wherever their texts lie; not, where one
// part differs, in whichever way.
func TestSameOptions(t *testing.T) {
	d := dice(147)
	for range 2000 {
		for _, o := range []api.Options{d.options(), d.wrong()} {
			copied := o
			copied.Dead, copied.DeadKey = strings.Clone(o.Dead), strings.Clone(o.DeadKey)
			wantSame(t, o, copied, true)
			for _, x := range []api.Options{
				{Dead: "+"}, {DeadKey: "+"}, {MaxLen: 1}, {TTL: 1}, {Prio: 1}, {MaxLen: 1 << 32}, {TTL: 1 << 32}, {Prio: 1 << 32},
			} {
				other := o
				other.Dead += x.Dead
				other.DeadKey += x.DeadKey
				other.MaxLen += x.MaxLen
				other.TTL += x.TTL
				other.Prio += x.Prio
				wantSame(t, o, other, false)
			}
		}
	}
	wantSame(t, api.Options{Dead: "ab"}, api.Options{Dead: "aB"}, false)
	wantSame(t, api.Options{Dead: "x"}, api.Options{DeadKey: "x"}, false)
	wantSame(t, api.Options{MaxLen: 1}, api.Options{TTL: 1}, false)
	wantSame(t, api.Options{TTL: 1}, api.Options{Prio: 1}, false)
	// A MaxLen of 0 means 60, but it isn't the same.
	wantSame(t, api.Options{}, api.Options{MaxLen: 60}, false)
}

// P14.1: SameOptions: each bit counts but Passive, also those that there are none of.
func TestSameOptionsBits(t *testing.T) {
	d := dice(148)
	all := slices.Clone(edges)
	for n := range 40 {
		all = append(all, n)
	}
	for _, a := range all {
		for _, b := range all {
			x := d.options()
			y := x
			x.Bits, y.Bits = a, b
			wantSame(t, x, y, a|8 == b|8)
		}
		for bit := range 63 {
			wantSame(t, api.Options{Bits: a}, api.Options{Bits: a ^ 1<<bit}, bit == 3)
		}
	}
	if 1<<3 != api.Passive {
		t.Error("Passive is not the bit of package api")
	}
}

// P14.2: For, written out: Prio.
func TestForPrio(t *testing.T) {
	for _, x := range []struct{ of, most, want int }{
		{0, 0, 0}, {1, 0, 0}, {3, 0, 0}, {0, 3, 0}, {1, 3, 1}, {2, 3, 2}, {3, 3, 3}, {4, 3, 3}, {255, 3, 3}, {255, 2, 2},
		{2, 1, 1}, {1, 2, 1}, {-1, 0, 0}, {-1, 3, 0}, {math.MinInt, 3, 0}, {math.MaxInt, 3, 3},
		// Of options that aren't: what the words say of them.
		{4, 9, 4}, {9, 4, 4}, {math.MaxInt, math.MaxInt, math.MaxInt}, {2, -1, 0}, {0, -1, 0}, {-2, -1, 0}, {-1, -2, 0},
		{math.MaxInt, math.MinInt, 0}, {math.MinInt, math.MinInt, 0},
	} {
		wantFor(t, api.Entry{ID: 3, Prio: x.of}, api.Options{Prio: x.most}, 7, api.Entry{ID: 3, Prio: x.want})
	}
}

// P14.2: For, written out: Until. What it was ahead of it plays no part.
func TestForUntil(t *testing.T) {
	for _, x := range []struct{ of, queue, now, want int }{
		{0, 0, 0, 0}, {0, 0, 100, 0}, {50, 0, 100, 150}, {0, 30, 100, 130}, {50, 30, 100, 130}, {30, 50, 100, 130},
		{30, 30, 100, 130}, {1, 0, 0, 1}, {0, 1, 0, 1}, {1, 2, 0, 1}, {2, 1, 0, 1}, {10000, 10000, 1000000, 1010000},
		{1, 10000, 5, 6}, {10000, 1, 5, 6}, {10000, 0, 5, 10005}, {0, 10000, 5, 10005},
		// Of TTLs that aren't: those below 0 are not above 0.
		{-1, 0, 100, 0}, {0, -1, 100, 0}, {-1, -1, 100, 0}, {-5, 30, 100, 130}, {30, -5, 100, 130},
		{math.MinInt, 30, 100, 130}, {30, math.MinInt, 100, 130}, {math.MinInt, math.MinInt, 100, 0},
		{20000, 30000, 100, 20100}, {math.MaxInt, 30, 100, 130}, {30, math.MaxInt, 100, 130}, {math.MaxInt, 0, 0, math.MaxInt},
		{30, 50, -100, -70}, {math.MaxInt, math.MaxInt, -1, math.MaxInt - 1}, {5, 0, math.MaxInt - 5, math.MaxInt}, {0, 0, math.MaxInt, 0},
		{1, 0, math.MinInt, math.MinInt + 1}, {0, 0, math.MinInt, 0},
	} {
		for _, ahead := range edges {
			e := api.Entry{ID: 3, TTL: x.of, Until: ahead}
			want := api.Entry{ID: 3, TTL: x.of, Until: x.want}
			wantFor(t, e, api.Options{TTL: x.queue}, x.now, want)
		}
	}
}

// plain does For by the chapter's words, but where the sum is beyond all ints.
func plain(e api.Entry, o api.Options, now int) api.Entry {
	if e.Prio > o.Prio {
		e.Prio = o.Prio
	}
	if e.Prio < 0 {
		e.Prio = 0
	}
	var ttls []int
	for _, ttl := range []int{e.TTL, o.TTL} {
		if ttl > 0 {
			ttls = append(ttls, ttl)
		}
	}
	e.Until = 0
	if len(ttls) > 0 {
		e.Until = now + slices.Min(ttls)
	}
	return e
}

// P14.2: For of all kinds of entries: of the parts but Prio and Until each is as it was;
// of the options but Prio and TTL none plays a part.
func TestForAny(t *testing.T) {
	d := dice(149)
	for range 20000 {
		e, now := d.entry(), d.below(1000000)
		for _, o := range []api.Options{d.options(), d.wrong()} {
			if max(e.TTL, o.TTL) > 1<<62 {
				continue
			}
			want := plain(e, o, now)
			wantFor(t, e, o, now, want)
			wantFor(t, e, api.Options{Prio: o.Prio, TTL: o.TTL}, now, want)
			// As it is there it stays there.
			wantFor(t, want, o, now, want)
		}
	}
}

// P14.2: with a time beyond all ints it is never gone.
func TestForBeyond(t *testing.T) {
	for _, x := range []struct{ of, queue, now int }{
		{1, 0, math.MaxInt}, {0, 1, math.MaxInt}, {math.MaxInt, 0, 1}, {math.MaxInt, math.MaxInt, math.MaxInt},
		{10000, 20000, math.MaxInt - 9999}, {math.MaxInt, math.MaxInt - 1, 2}, {1 << 62, 0, 1 << 62},
	} {
		e := entry.For(api.Entry{TTL: x.of}, api.Options{TTL: x.queue}, x.now)
		for _, now := range edges {
			wantGone(t, e, now, false)
		}
	}
}

// P14.3: who is first: whichever way entries lie, sorted by Less they lie by the greater
// Prio, of one Prio by ID.
func TestWhoIsFirst(t *testing.T) {
	d := dice(150)
	for n := range 200 {
		var want []api.Entry
		for prio := 3; prio >= 0; prio-- {
			for id := range n / 8 {
				want = append(want, api.Entry{ID: 4*id + d.below(4), Prio: prio, Body: d.below(9), TTL: d.below(9), Again: d.flag()})
			}
		}
		got := slices.Clone(want)
		for i := range got {
			j := d.below(i + 1)
			got[i], got[j] = got[j], got[i]
		}
		slices.SortFunc(got, func(a, b api.Entry) int {
			switch {
			case entry.Less(a, b):
				return -1
			case entry.Less(b, a):
				return 1
			}
			return 0
		})
		if !slices.Equal(got, want) {
			t.Fatalf("sorted by Less: %v; want %v", got, want)
		}
	}
}

// P14.3: who is first in a queue: a priority above the queue's own is no more than that.
func TestWhoIsFirstInAQueue(t *testing.T) {
	o := api.Options{Prio: 2}
	late, early := api.Entry{ID: 8, Prio: 255}, api.Entry{ID: 7, Prio: 2}
	wantLess(t, late, early, true)
	wantLess(t, entry.For(late, o, 0), entry.For(early, o, 0), false)
	wantLess(t, entry.For(early, o, 0), entry.For(late, o, 0), true)
	wantLess(t, entry.For(early, api.Options{}, 0), entry.For(api.Entry{ID: 9, Prio: 3}, api.Options{}, 0), true)
}

// P14.3: how long: in a queue it isn't gone until the lesser one of both TTLs is over,
// and from then on it is; with none of them never.
func TestHowLong(t *testing.T) {
	for of := range 12 {
		for queue := range 12 {
			for start := range 12 {
				e := entry.For(api.Entry{ID: 1, TTL: of}, api.Options{TTL: queue}, start)
				for now := start; now < start+30; now++ {
					over := of > 0 && now-start >= of || queue > 0 && now-start >= queue
					wantGone(t, e, now, over)
				}
			}
		}
	}
	e := entry.For(api.Entry{ID: 1, Until: 5}, api.Options{}, 0)
	for _, now := range edges {
		wantGone(t, e, now, false)
	}
}
