package guest_test

import (
	"math"
	"slices"
	"strconv"
	"strings"
	"testing"

	"mailcoach/api"
	"mailcoach/guest"
)

// edges are ints at which something may turn.
var edges = []int{math.MinInt, math.MinInt + 1, -1 << 32, -256, -2, -1, 0, 1, 2, 3, 4, 255, 256, 1 << 32, 1<<32 + 1, math.MaxInt - 1, math.MaxInt}

// lengths are so many guests, beside which a way of holding them may turn.
var lengths = []int{1, 2, 3, 4, 5, 7, 8, 9, 15, 16, 17, 31, 32, 33, 63, 64, 65, 66, 127, 128, 129, 191, 192, 193, 255, 256, 257}

// gu is a guest whose other parts hang on its tag, too.
func gu(conn, channel int, tag string) api.Guest {
	return api.Guest{Conn: conn, Chan: channel, Tag: tag, Most: 3 * len(tag), NoAck: len(tag)%2 == 0}
}

// nth is the guest of that number, of some connection and channel.
func nth(n int) api.Guest { return gu(n%3, n%2+1, strconv.Itoa(n)) }

// nths are the guests from that number on, so many.
func nths(from, n int) []api.Guest {
	var all []api.Guest
	for i := range n {
		all = append(all, nth(from+i))
	}
	return all
}

// guestsOf are those, added in their order.
func guestsOf(t *testing.T, all ...api.Guest) *guest.Guests {
	t.Helper()
	g := guest.New()
	for _, x := range all {
		wantAdd(t, g, x)
	}
	return g
}

// crowd are so many guests, from the one of number 0 on, with the turn at that one.
func crowd(t *testing.T, n, turn int) (*guest.Guests, []api.Guest) {
	t.Helper()
	all := nths(0, n)
	g := guestsOf(t, all...)
	turnTo(t, g, n, turn)
	return g, all
}

// turnTo hands the turn of so many guests to the one that so many are ahead of.
func turnTo(t *testing.T, g *guest.Guests, n, turn int) {
	t.Helper()
	if _, ok := g.Pick(only(n, (turn+n-1)%n)); !ok {
		t.Fatalf("none of %d has spare", n)
	}
}

// only those places, of so many, have spare.
func only(n int, places ...int) []bool {
	spare := make([]bool, n)
	for _, at := range places {
		spare[at] = true
	}
	return spare
}

// every place, of so many, has spare.
func every(n int) []bool { return slices.Repeat([]bool{true}, n) }

func without(all []api.Guest, at int) []api.Guest { return slices.Delete(slices.Clone(all), at, at+1) }

// behind are those, from that one on, round and round.
func behind(all []api.Guest, at int) []api.Guest {
	return append(slices.Clone(all[at:]), all[:at]...)
}

// tags tells guests shortly.
func tags(all []api.Guest) string {
	var words []string
	for _, x := range all {
		words = append(words, strconv.Itoa(x.Conn)+"/"+strconv.Itoa(x.Chan)+"/"+x.Tag)
	}
	if len(words) > 50 {
		return strconv.Itoa(len(words)) + " of them"
	}
	return strings.Join(words, " ")
}

// wantGuests: those are there, whole, in that order, and none beside them.
func wantGuests(t *testing.T, g *guest.Guests, want ...api.Guest) {
	t.Helper()
	if got := g.All(); !slices.Equal(got, want) || g.Len() != len(want) {
		t.Fatalf("%.300s, %d; want %.300s, %d", tags(got), g.Len(), tags(want), len(want))
	}
	sole := slices.ContainsFunc(want, func(x api.Guest) bool { return x.Sole })
	if g.Sole() != sole {
		t.Fatalf("Sole of %.300s: %v", tags(want), !sole)
	}
}

// wantAdd: it wasn't there, and is there now, behind all.
func wantAdd(t *testing.T, g *guest.Guests, x api.Guest) {
	t.Helper()
	if n := g.Len(); !g.Add(x) || g.Len() != n+1 {
		t.Fatalf("Add(%.200v): false, or not one more than %d: %d", x, n, g.Len())
	}
}

// wantRefused: it isn't added, and nothing is changed.
func wantRefused(t *testing.T, g *guest.Guests, x api.Guest) {
	t.Helper()
	was := g.All()
	if g.Add(x) {
		t.Fatalf("Add(%.200v): true", x)
	}
	wantGuests(t, g, was...)
}

// wantDrop: that one goes.
func wantDrop(t *testing.T, g *guest.Guests, x api.Guest) {
	t.Helper()
	if n := g.Len(); !g.Drop(x.Conn, x.Chan, x.Tag) || g.Len() != n-1 {
		t.Fatalf("Drop(%.200v): false, or not one less than %d: %d", x, n, g.Len())
	}
}

// wantNoDrop: there is none such, and nothing is changed.
func wantNoDrop(t *testing.T, g *guest.Guests, conn, channel int, tag string) {
	t.Helper()
	was := g.All()
	if g.Drop(conn, channel, tag) {
		t.Fatalf("Drop(%d, %d, %.200q): true", conn, channel, tag)
	}
	wantGuests(t, g, was...)
}

// wantPick: that one is picked, whole.
func wantPick(t *testing.T, g *guest.Guests, spare []bool, want api.Guest) {
	t.Helper()
	if got, ok := g.Pick(spare); got != want || !ok {
		t.Fatalf("Pick: %.200v, %v; want %.200v", got, ok, want)
	}
}

// wantNoPick: none is picked.
func wantNoPick(t *testing.T, g *guest.Guests, spare []bool) {
	t.Helper()
	if got, ok := g.Pick(spare); got != (api.Guest{}) || ok {
		t.Fatalf("Pick: %.200v, %v; want none", got, ok)
	}
}

// wantRound: where all have spare those are picked, in that order, and then again.
func wantRound(t *testing.T, g *guest.Guests, want ...api.Guest) {
	t.Helper()
	spare := every(len(want))
	for range 2 {
		for _, x := range want {
			wantPick(t, g, spare, x)
		}
	}
}

// wantEmpty: nobody is there, whatever is asked.
func wantEmpty(t *testing.T, g *guest.Guests) {
	t.Helper()
	for range 2 {
		wantGuests(t, g)
		for _, n := range edges {
			wantNoDrop(t, g, n, n, "")
			wantNoDrop(t, g, 0, n, "a")
		}
		for _, n := range []int{0, 1, 64, 65, 6000} {
			wantNoPick(t, g, every(n))
			wantNoPick(t, g, only(n))
		}
		wantNoPick(t, g, nil)
	}
}

// P18.1: new Guests are none, nor are those that nobody made; both go on from there, by
// whatever call.
func TestNew(t *testing.T) {
	for _, made := range []func() *guest.Guests{guest.New, func() *guest.Guests { return &guest.Guests{} }} {
		g := made()
		wantEmpty(t, g)
		wantAdd(t, g, nth(5))
		wantGuests(t, g, nth(5))
		wantRound(t, g, nth(5))
		wantDrop(t, g, nth(5))
		wantEmpty(t, g)
		// Each call is the first one once.
		if !made().Add(nth(5)) || made().Drop(0, 0, "") || made().Sole() || made().Len() != 0 || len(made().All()) != 0 {
			t.Fatal("a first call")
		}
		wantNoPick(t, made(), every(3))
	}
}

// P18.1: each is behind all that are there, whatever it has.
func TestOrder(t *testing.T) {
	g := guest.New()
	var all []api.Guest
	for i := range 200 {
		x := gu(3-i*7%5, i*5%7-2, strconv.Itoa(i*37%101))
		wantAdd(t, g, x)
		all = append(all, x)
		wantGuests(t, g, all...)
	}
	for i := range 150 {
		x := all[i*31%len(all)]
		wantDrop(t, g, x)
		all = without(all, slices.Index(all, x))
		wantGuests(t, g, all...)
		if i%3 == 0 { // behind all, also where it was ahead of some once
			wantAdd(t, g, x)
			all = append(all, x)
			wantGuests(t, g, all...)
		}
	}
}

// P18.1: one of the same Conn, Chan, Tag is refused, whatever else it has; what differs in
// one of these isn't. What is refused changes nothing of the one that is there.
func TestWhoIsThere(t *testing.T) {
	there := api.Guest{Conn: 1, Chan: 2, Tag: "tag", Most: 4}
	for _, x := range []struct {
		guest api.Guest
		same  bool
	}{
		{there, true},
		{api.Guest{Conn: 1, Chan: 2, Tag: "tag"}, true},
		{api.Guest{Conn: 1, Chan: 2, Tag: "tag", Most: -1, NoAck: true, Sole: true}, true},
		{api.Guest{Conn: 1, Chan: 2, Tag: "tag", Most: 4, NoAck: true}, true},
		{api.Guest{Conn: 1, Chan: 2, Tag: "tag", Most: 4, Sole: true}, true},
		{api.Guest{Conn: 2, Chan: 2, Tag: "tag", Most: 4}, false},
		{api.Guest{Conn: 0, Chan: 2, Tag: "tag", Most: 4}, false},
		{api.Guest{Conn: 1 + 1<<32, Chan: 2, Tag: "tag", Most: 4}, false},
		{api.Guest{Conn: -1, Chan: 2, Tag: "tag", Most: 4}, false},
		{api.Guest{Conn: 1, Chan: 1, Tag: "tag", Most: 4}, false},
		{api.Guest{Conn: 1, Chan: 3, Tag: "tag", Most: 4}, false},
		{api.Guest{Conn: 1, Chan: 2 + 1<<32, Tag: "tag", Most: 4}, false},
		{api.Guest{Conn: 1, Chan: -2, Tag: "tag", Most: 4}, false},
		{api.Guest{Conn: 2, Chan: 1, Tag: "tag", Most: 4}, false},
		{api.Guest{Conn: 1, Chan: 2, Tag: "", Most: 4}, false},
		{api.Guest{Conn: 1, Chan: 2, Tag: "ta", Most: 4}, false},
		{api.Guest{Conn: 1, Chan: 2, Tag: "tags", Most: 4}, false},
		{api.Guest{Conn: 1, Chan: 2, Tag: "Tag", Most: 4}, false},
		{api.Guest{Conn: 1, Chan: 2, Tag: "tag\x00", Most: 4}, false},
		{api.Guest{Conn: 1, Chan: 2, Tag: " tag", Most: 4}, false},
		{api.Guest{Conn: 1, Chan: 2, Tag: "\xff", Most: 4}, false},
	} {
		g := guestsOf(t, nth(1), there, nth(2))
		if x.same {
			wantRefused(t, g, x.guest)
			wantRound(t, g, nth(1), there, nth(2))
			continue
		}
		wantNoDrop(t, g, x.guest.Conn, x.guest.Chan, x.guest.Tag)
		wantAdd(t, g, x.guest)
		wantRefused(t, g, x.guest)
		wantGuests(t, g, nth(1), there, nth(2), x.guest)
		wantDrop(t, g, there)
		wantGuests(t, g, nth(1), nth(2), x.guest)
		wantNoDrop(t, g, there.Conn, there.Chan, there.Tag)
		wantAdd(t, g, there)
		wantDrop(t, g, x.guest)
		wantGuests(t, g, nth(1), nth(2), there)
	}
}

// P18.1: a guest comes out as it was added, with all that it has, from every call; every
// number, every text may be a guest's.
func TestWholeGuests(t *testing.T) {
	whole := []api.Guest{
		{Conn: 3, Chan: 2, Tag: "c", Most: 7, NoAck: true, Sole: true},
		{},
		{Tag: strings.Repeat("t", 300), NoAck: true},
		{Conn: math.MinInt, Chan: math.MaxInt, Tag: "\xff\x00é", Most: math.MinInt},
		{Conn: math.MaxInt, Chan: math.MinInt, Most: math.MaxInt, Sole: true},
		{Conn: -1, Chan: -1, Tag: strings.Repeat("t", 299) + "u", Most: -1},
	}
	g := guestsOf(t, whole...)
	wantGuests(t, g, whole...)
	wantRound(t, g, whole...)
	for i, x := range whole {
		wantRefused(t, g, api.Guest{Conn: x.Conn, Chan: x.Chan, Tag: x.Tag})
		wantDrop(t, g, x)
		wantGuests(t, g, whole[i+1:]...)
	}
	wantEmpty(t, g)
}

// P18.1: Sole tells whether one of them has Sole, while they come and go.
func TestSole(t *testing.T) {
	sole := func(n int) api.Guest {
		x := nth(n)
		x.Sole = true
		return x
	}
	for at := range 5 {
		all := nths(0, 5)
		all[at] = sole(at)
		g := guestsOf(t, all...)
		wantGuests(t, g, all...)
		wantAdd(t, g, sole(9)) // nobody is refused for it here
		wantGuests(t, g, append(all, sole(9))...)
		wantDrop(t, g, all[at])
		wantGuests(t, g, append(without(all, at), sole(9))...)
		wantDrop(t, g, sole(9))
		wantGuests(t, g, without(all, at)...)
		wantAdd(t, g, nth(at)) // again, without it
		wantGuests(t, g, append(without(all, at), nth(at))...)
		wantRefused(t, g, sole(at))
	}
}

// P18.1: Drop takes the one of that Conn, Chan, Tag, from each place, and no other one.
func TestDrop(t *testing.T) {
	for _, n := range lengths {
		if n > 70 {
			break
		}
		for at := range n {
			all := nths(0, n)
			g := guestsOf(t, all...)
			wantNoDrop(t, g, nth(n).Conn, nth(n).Chan, nth(n).Tag)
			wantDrop(t, g, all[at])
			wantNoDrop(t, g, all[at].Conn, all[at].Chan, all[at].Tag)
			wantGuests(t, g, without(all, at)...)
		}
	}
}

// P18.1: Pick takes the first one with spare from the turn on, round and round, and hands
// the turn to the one behind it: each turn, each set of those with spare.
func TestPickOfEachSet(t *testing.T) {
	for n := 1; n <= 6; n++ {
		for set := range 1 << n {
			for turn := range n {
				g, all := crowd(t, n, turn)
				spare, want := make([]bool, n), -1
				for i := n - 1; i >= 0; i-- {
					at := (turn + i) % n
					if set>>at&1 == 1 {
						spare[at], want = true, at
					}
				}
				if want < 0 {
					wantNoPick(t, g, spare)
					wantRound(t, g, behind(all, turn)...)
					continue
				}
				wantPick(t, g, spare, all[want])
				wantRound(t, g, behind(all, (want+1)%n)...)
				wantGuests(t, g, all...)
			}
		}
	}
}

// P18.1: of whatever many, one alone that has spare is picked from each turn on; so is
// the nearest one of two.
func TestPickFar(t *testing.T) {
	for _, n := range lengths {
		g, all := crowd(t, n, 0)
		for turn := range n {
			for _, at := range []int{0, 1, 31, 62, 63, 64, 65, 126, 127, 128, 129, n / 2, n - 2, n - 1, turn, turn + 1, turn - 1, turn + 63, turn + 64, turn - 63, turn - 64} {
				if at < 0 || at >= n {
					continue
				}
				turnTo(t, g, n, turn)
				wantPick(t, g, only(n, at), all[at])
				wantPick(t, g, every(n), all[(at+1)%n])
				// The other one is the one farthest off.
				turnTo(t, g, n, turn)
				wantPick(t, g, only(n, at, (turn+n-1)%n), all[at])
			}
		}
		wantGuests(t, g, all...)
	}
}

// P18.1: where nobody has spare nobody is picked, and the turn stays where it is.
func TestNobodyHasSpare(t *testing.T) {
	for _, n := range lengths {
		g, all := crowd(t, n, 0)
		for turn := range n {
			turnTo(t, g, n, turn)
			wantNoPick(t, g, nil)
			wantNoPick(t, g, []bool{})
			wantNoPick(t, g, only(n))
			wantNoPick(t, g, only(n-1))
			wantNoPick(t, g, only(2*n+100))
			wantNoPick(t, g, only(n+1, n))
			wantPick(t, g, every(n), all[turn])
		}
	}
}

// P18.1: of spare what is beyond the guests is nothing, what lacks is false.
func TestSpareOfAnotherLength(t *testing.T) {
	for _, n := range lengths {
		if n < 2 {
			continue
		}
		g, all := crowd(t, n, 0)
		for _, turn := range []int{0, 1, n / 2, n - 1} {
			for _, more := range []int{1, 2, 63, 64, 65, 200} {
				turnTo(t, g, n, turn)
				wantNoPick(t, g, append(only(n), every(more)...))
				wantPick(t, g, append(only(n, turn), every(more)...), all[turn])
				turnTo(t, g, n, turn)
				wantPick(t, g, append(only(n, (turn+n-1)%n), every(more)...), all[(turn+n-1)%n])
			}
			for _, less := range []int{1, 2, n / 2, n - 1} {
				turnTo(t, g, n, turn)
				want := turn
				if turn >= less {
					want = 0
				}
				wantPick(t, g, every(less), all[want])
				wantPick(t, g, every(n), all[(want+1)%n])
				// What lies behind a list, in its spare room, is nothing of it.
				turnTo(t, g, n, turn)
				wantPick(t, g, every(n)[:less], all[want])
			}
		}
	}
}

// P18.1: where one ahead of the turn goes the turn stays at the one at which it is; where
// that one goes it is at the one behind it, behind the last one at the first one; where one
// behind it goes it stays likewise.
func TestTurnWhereOneGoes(t *testing.T) {
	for _, n := range lengths {
		for turn := range n {
			for _, at := range near(n, turn) {
				g, all := crowd(t, n, turn)
				wantDrop(t, g, all[at])
				left := without(all, at)
				if n == 1 {
					wantEmpty(t, g)
					continue
				}
				want := turn
				if at < turn {
					want--
				}
				want %= len(left)
				wantPick(t, g, every(n), left[want])
				wantPick(t, g, every(n), left[(want+1)%len(left)])
			}
		}
	}
}

// near are the places of so many at which something may turn, where the turn is at that
// one; of few guests all of them.
func near(n, turn int) []int {
	var places []int
	for at := range n {
		if n < 9 || at >= turn-1 && at <= turn+1 || n < 130 && (at == 0 || at == n-1) {
			places = append(places, at)
		}
	}
	return places
}

// P18.1: what isn't there, asking, and what is refused don't move the turn.
func TestTurnStays(t *testing.T) {
	for _, n := range lengths {
		for turn := range n {
			g, all := crowd(t, n, turn)
			g.Drop(9, 9, "nobody")
			g.Add(all[n-1])
			g.Add(all[0])
			g.All()
			g.Sole()
			g.Len()
			guest.Spin(turn, 4)
			wantPick(t, g, every(n), all[turn])
		}
	}
}

// P18.1: behind the last one the turn is at the first one, also where somebody comes
// behind the last one then; one who comes while the turn is elsewhere is behind all.
func TestTurnWhereOneComes(t *testing.T) {
	for _, n := range lengths {
		for turn := range n {
			g, all := crowd(t, n, turn)
			wantAdd(t, g, nth(n))
			wantRound(t, g, behind(append(all, nth(n)), turn)...)
		}
		// Where the last one went, at which the turn was, likewise.
		g, all := crowd(t, n+1, n)
		wantDrop(t, g, all[n])
		wantAdd(t, g, nth(n+1))
		wantRound(t, g, append(nths(0, n), nth(n+1))...)
	}
}

// P18.1: where all went the turn is at the first one that comes, wherever it was.
func TestTurnOfNone(t *testing.T) {
	for _, n := range []int{1, 2, 5, 70} {
		for turn := range n {
			for _, last := range []int{0, turn, n - 1} {
				g, all := crowd(t, n, turn)
				for i, x := range all {
					if i != last {
						wantDrop(t, g, x)
					}
				}
				wantDrop(t, g, all[last])
				wantEmpty(t, g)
				wantAdd(t, g, all[0])
				wantAdd(t, g, nth(n))
				wantRound(t, g, all[0], nth(n))
			}
		}
	}
}

// P18.3: each in turn: where all have spare each is picked once a round, in order, however
// many there are (a bitmap has 5000 places at most).
func TestEachInTurn(t *testing.T) {
	for _, n := range append([]int{4999, 5000, 5001, 5002, 10000, 10001, 12345}, lengths...) {
		g := guest.New()
		all := nths(0, n)
		for _, x := range all {
			wantAdd(t, g, x)
		}
		wantGuests(t, g, all...)
		wantRound(t, g, all...)
		wantPick(t, g, only(n, n-1), all[n-1])
		wantPick(t, g, only(n, n-1), all[n-1])
		wantPick(t, g, only(n, 0), all[0])
		wantPick(t, g, only(n, 0), all[0])
		wantPick(t, g, only(n, n/2), all[n/2])
		wantPick(t, g, every(n/2+1), all[0])
		wantNoPick(t, g, only(n))
		wantNoPick(t, g, append(only(n), true))
	}
}

// P18.3: while one that has spare waits no other one is picked twice, whoever else has
// spare and comes and goes.
func TestNobodyIsPassedOver(t *testing.T) {
	d := dice(183)
	for _, n := range []int{2, 3, 20, 130} {
		g, all := crowd(t, n, 0)
		waiting, next, passed := all[10%n], n, map[string]bool{}
		for range 3000 {
			spare := make([]bool, len(all))
			for i := range spare {
				spare[i] = d.below(4) > 0 || all[i] == waiting
			}
			x, ok := g.Pick(spare)
			if !ok || passed[x.Tag] {
				t.Fatalf("%d guests: %q was picked again", len(all), x.Tag)
			}
			passed[x.Tag] = true
			if x == waiting {
				clear(passed)
			}
			if at := d.below(len(all)); d.below(2) == 0 && all[at] != waiting {
				wantDrop(t, g, all[at])
				all = append(without(all, at), nth(next))
				wantAdd(t, g, nth(next))
				next++
			}
		}
		if next < n+500 {
			t.Errorf("%d guests: %d came", n, next-n)
		}
	}
}

// P18.1: the spare that is handed in isn't changed, nor kept.
func TestSpareIsNotTouched(t *testing.T) {
	for _, n := range []int{1, 5, 64, 65, 200} {
		g, all := crowd(t, n, 0)
		spare := append(every(n), only(9)...)
		was := slices.Clone(spare)
		given := spare[: n/2+1 : n+3]
		wantPick(t, g, given, all[0])
		if !slices.Equal(spare, was) {
			t.Fatalf("of %d guests: spare was changed", n)
		}
		clear(spare)
		wantNoPick(t, g, spare)
		wantPick(t, g, every(n), all[1%n])
	}
}

// P18.1: what is answered is new each time, its spare room too, and no answer is touched
// by what comes later.
func TestAnswersAreNew(t *testing.T) {
	scratch := func(list []api.Guest) {
		list = list[:cap(list)]
		for i := range list {
			list[i] = gu(-1, -1, "scratched")
		}
	}
	for n := range 40 {
		all := nths(0, n)
		g := guestsOf(t, all...)
		first, second := g.All(), g.All()
		scratch(first)
		wantGuests(t, g, all...)
		if !slices.Equal(second, all) {
			t.Fatalf("an answer was touched by another one: %s", tags(second))
		}
		wantAdd(t, g, nth(n))
		if n > 0 {
			wantDrop(t, g, all[0])
			wantDrop(t, g, nth(n))
			wantAdd(t, g, all[0])
		}
		if !slices.Equal(second, all) {
			t.Fatalf("an earlier answer was touched: %s", tags(second))
		}
		third := g.All()
		scratch(second)
		wantGuests(t, g, third...)
	}
}

// P18.1: Guests don't know of other ones.
func TestGuestsAreApart(t *testing.T) {
	a, all := crowd(t, 7, 0)
	b := guest.New()
	wantEmpty(t, b)
	wantAdd(t, b, all[3])
	wantAdd(t, b, all[1])
	wantPick(t, a, every(7), all[0])
	wantRound(t, b, all[3], all[1])
	wantDrop(t, a, all[3])
	wantGuests(t, b, all[3], all[1])
	wantDrop(t, b, all[1])
	wantRound(t, a, behind(without(all, 3), 1)...)
}

// P18.2: Spin tells i to the power of four times at by n.
func TestSpin(t *testing.T) {
	powers := []complex128{1, 1i, -1, -1i}
	for at := -5000; at <= 5000; at++ {
		for _, n := range []int{1, 2, 4} {
			want := powers[(4/n*at%4+4)%4]
			if got := guest.Spin(at, n); !same(got, want) {
				t.Fatalf("Spin(%d, %d): %v; want %v", at, n, got, want)
			}
		}
	}
}

// P18.2: the example, a table of what is small, and the ends of all ints.
func TestSpinAtTheEdges(t *testing.T) {
	for _, x := range []struct {
		at, n int
		want  complex128
	}{
		{1, 4, 1i}, {0, 4, 1}, {2, 4, -1}, {3, 4, -1i}, {4, 4, 1}, {5, 4, 1i}, {-1, 4, -1i}, {-2, 4, -1}, {-3, 4, 1i}, {-4, 4, 1}, {-5, 4, -1i},
		{0, 2, 1}, {1, 2, -1}, {2, 2, 1}, {3, 2, -1}, {-1, 2, -1}, {-2, 2, 1},
		{0, 1, 1}, {1, 1, 1}, {2, 1, 1}, {3, 1, 1}, {-1, 1, 1},
		{math.MinInt, 4, 1}, {math.MinInt + 1, 4, 1i}, {math.MinInt + 2, 4, -1}, {math.MinInt + 3, 4, -1i},
		{math.MaxInt, 4, -1i}, {math.MaxInt - 1, 4, -1}, {math.MaxInt - 2, 4, 1i}, {math.MaxInt - 3, 4, 1},
		{math.MinInt, 2, 1}, {math.MinInt + 1, 2, -1}, {math.MaxInt, 2, -1}, {math.MaxInt - 1, 2, 1},
		{math.MinInt, 1, 1}, {math.MinInt + 1, 1, 1}, {math.MaxInt, 1, 1}, {math.MaxInt - 1, 1, 1},
		{1 << 62, 4, 1}, {1<<62 + 1, 4, 1i}, {1<<53 + 1, 4, 1i}, {1<<53 + 3, 4, -1i}, {-1<<53 - 1, 4, -1i}, {1<<61 + 1, 2, -1},
	} {
		if got := guest.Spin(x.at, x.n); !same(got, x.want) {
			t.Errorf("Spin(%d, %d): %v; want %v", x.at, x.n, got, x.want)
		}
	}
}

// P18.2: 0 of an n that isn't 1, 2 or 4.
func TestSpinOfAnotherN(t *testing.T) {
	for _, n := range append([]int{3, 5, 6, 7, 8, 12, 16, 64, -3, -4, -8, 1<<32 + 1, 1<<32 + 2, 1<<32 + 4, 1<<62 + 4}, edges...) {
		if n == 1 || n == 2 || n == 4 {
			continue
		}
		for _, at := range append([]int{5, 6, 7, 8, n, 4 * n}, edges...) {
			if got := guest.Spin(at, n); !same(got, 0) {
				t.Errorf("Spin(%d, %d): %v; want 0", at, n, got)
			}
		}
	}
}

// same tells complex numbers apart by all that they have, also by zeros that are below 0.
func same(a, b complex128) bool {
	return math.Float64bits(real(a)) == math.Float64bits(real(b)) && math.Float64bits(imag(a)) == math.Float64bits(imag(b))
}
