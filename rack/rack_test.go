package rack_test

import (
	"math"
	"slices"
	"strconv"
	"strings"
	"testing"

	"mailcoach/api"
	"mailcoach/rack"
)

// en is an entry of which ID, Prio and Until alone tell.
func en(id, prio, until int) api.Entry { return api.Entry{ID: id, Prio: prio, Until: until} }

// rackOf is a rack with those, put in their order.
func rackOf(t *testing.T, all ...api.Entry) *rack.Rack {
	t.Helper()
	r := rack.New()
	for _, e := range all {
		wantPut(t, r, e, true)
	}
	return r
}

// ids tells entries shortly.
func ids(all []api.Entry) string {
	var words []string
	for _, e := range all {
		words = append(words, strconv.Itoa(e.Prio)+"/"+strconv.Itoa(e.ID))
	}
	return strings.Join(words, " ")
}

func wantPut(t *testing.T, r *rack.Rack, e api.Entry, want bool) {
	t.Helper()
	if got := r.Put(e); got != want {
		t.Fatalf("Put(%.200v): %v; want %v", e, got, want)
	}
}

// wantOne: a call answers that entry, whole.
func wantOne(t *testing.T, call string, ask func() (api.Entry, bool), want api.Entry) {
	t.Helper()
	if got, ok := ask(); got != want || !ok {
		t.Fatalf("%s: %.200v, %v; want %.200v", call, got, ok, want)
	}
}

// wantNone: a call answers false, and an entry of zeros.
func wantNone(t *testing.T, call string, ask func() (api.Entry, bool)) {
	t.Helper()
	if got, ok := ask(); got != (api.Entry{}) || ok {
		t.Fatalf("%s: %.200v, %v; want none", call, got, ok)
	}
}

func dropOf(r *rack.Rack, id int) func() (api.Entry, bool) {
	return func() (api.Entry, bool) { return r.Drop(id) }
}

func wantGone(t *testing.T, r *rack.Rack, now int, want ...api.Entry) {
	t.Helper()
	if got := r.Gone(now); !slices.Equal(got, want) {
		t.Fatalf("Gone(%d): %s; want %s", now, ids(got), ids(want))
	}
}

// wantRack asks for a rack in every way that doesn't change it; those are in order.
func wantRack(t *testing.T, r *rack.Rack, want ...api.Entry) {
	t.Helper()
	if got := r.All(); !slices.Equal(got, want) || r.Len() != len(want) {
		t.Fatalf("%s, %d; want %s, %d", ids(got), r.Len(), ids(want), len(want))
	}
	if len(want) == 0 {
		wantNone(t, "First", r.First)
		wantNone(t, "Worst", r.Worst)
		return
	}
	wantOne(t, "First", r.First, want[0])
	wantOne(t, "Worst", r.Worst, worstOf(want))
}

// wantEmpty: nothing is there, whatever is asked.
func wantEmpty(t *testing.T, r *rack.Rack) {
	t.Helper()
	for range 2 {
		wantRack(t, r)
		wantNone(t, "Take", r.Take)
		for _, n := range []int{math.MinInt, -1, 0, 1, 5, math.MaxInt} {
			wantNone(t, "Drop", dropOf(r, n))
			wantGone(t, r, n)
		}
	}
}

// sorted are those by the chapter's words: the greater Prio first, of one Prio the lesser ID.
func sorted(all []api.Entry) []api.Entry {
	all = slices.Clone(all)
	slices.SortFunc(all, func(a, b api.Entry) int {
		switch {
		case a.Prio > b.Prio, a.Prio == b.Prio && a.ID < b.ID:
			return -1
		}
		return 1
	})
	return all
}

// worstOf is the one of the least Prio, of these the least ID.
func worstOf(all []api.Entry) api.Entry {
	worst := all[0]
	for _, e := range all[1:] {
		if e.Prio < worst.Prio || e.Prio == worst.Prio && e.ID < worst.ID {
			worst = e
		}
	}
	return worst
}

// orders hands over all orders of those.
func orders(all []api.Entry, do func([]api.Entry)) {
	var lay func(laid, left []api.Entry)
	lay = func(laid, left []api.Entry) {
		if len(left) == 0 {
			do(laid)
		}
		for i, e := range left {
			lay(append(slices.Clone(laid), e), slices.Delete(slices.Clone(left), i, i+1))
		}
	}
	lay(nil, all)
}

// P15.1: in a new rack there is nothing, nor in one that nobody made; both go on from there.
func TestNew(t *testing.T) {
	var zero rack.Rack
	for _, r := range []*rack.Rack{rack.New(), &zero} {
		wantEmpty(t, r)
		wantPut(t, r, en(1, -1, 0), false)
		wantEmpty(t, r)
		wantPut(t, r, en(1, 2, 0), true)
		wantRack(t, r, en(1, 2, 0))
		wantOne(t, "Take", r.Take, en(1, 2, 0))
		wantEmpty(t, r)
	}
}

// P15.1: the example: Put 2, Put 1: First 1.
func TestExample(t *testing.T) {
	r := rackOf(t, en(2, 0, 0), en(1, 0, 0))
	wantOne(t, "First", r.First, en(1, 0, 0))
	wantRack(t, r, en(1, 0, 0), en(2, 0, 0))
}

// P15.1: every Prio from 0 to MaxPrio may lie there, none beside them; a refused one
// changes nothing.
func TestPrios(t *testing.T) {
	r := rack.New()
	var there []api.Entry
	for prio := -3; prio <= api.MaxPrio+3; prio++ {
		e := en(10-prio, prio, 0)
		is := prio >= 0 && prio <= 3
		wantPut(t, r, e, is)
		if is {
			there = append(there, e)
		}
		wantRack(t, r, sorted(there)...)
	}
	for _, prio := range []int{math.MinInt, math.MinInt + 3, -1 << 32, -256, 5, 255, 256, 1 << 32, 1<<32 + 1, math.MaxInt - 3, math.MaxInt} {
		wantPut(t, r, en(99, prio, 0), false)
		wantNone(t, "Drop", dropOf(r, 99))
		wantRack(t, r, sorted(there)...)
	}
	wantPut(t, r, en(99, 3, 0), true)
}

// P15.1: an ID that is there is refused, of whatever Prio it comes, and what was there
// stays as it was.
func TestOneOfEachID(t *testing.T) {
	first := api.Entry{ID: 5, Prio: 1, Key: "first", Until: 9}
	for _, other := range [][]api.Entry{{}, {en(4, 1, 0), en(6, 1, 0)}, {en(4, 0, 0), en(6, 3, 0), en(7, 2, 0)}} {
		r := rackOf(t, append([]api.Entry{first}, other...)...)
		want := sorted(append([]api.Entry{first}, other...))
		for prio := -1; prio <= api.MaxPrio+1; prio++ {
			wantPut(t, r, api.Entry{ID: 5, Prio: prio, Key: "second"}, false)
			wantPut(t, r, first, false)
			wantRack(t, r, want...)
		}
	}
}

// P15.1: an ID is free again, for whatever Prio, once it went, however it went.
func TestIDsAreFreeAgain(t *testing.T) {
	ways := []func(r *rack.Rack){
		func(r *rack.Rack) { r.Take() },
		func(r *rack.Rack) { r.Drop(5) },
		func(r *rack.Rack) { r.Gone(9) },
	}
	for i, goes := range ways {
		for prio := range api.MaxPrio + 1 {
			r := rackOf(t, en(4, 1, 0), en(5, 3, 9), en(6, 2, 0))
			goes(r)
			wantRack(t, r, en(6, 2, 0), en(4, 1, 0))
			again := en(5, prio, 100+i)
			wantPut(t, r, again, true)
			wantPut(t, r, again, false)
			wantRack(t, r, sorted([]api.Entry{en(4, 1, 0), en(6, 2, 0), again})...)
		}
	}
}

// P15.1: all numbers are IDs, and lie in their order.
func TestEveryID(t *testing.T) {
	numbers := []int{math.MinInt, math.MinInt + 1, -1 << 40, -1 << 32, -2, -1, 0, 1, 2, 1 << 31, 1 << 32, 1 << 40, math.MaxInt - 1, math.MaxInt}
	for turn := range len(numbers) {
		r := rack.New()
		var want []api.Entry
		for i := range numbers {
			e := en(numbers[(i*3+turn)%len(numbers)], 2, 0)
			wantPut(t, r, e, true)
			want = append(want, e)
		}
		wantRack(t, r, sorted(want)...)
		for _, id := range numbers {
			wantOne(t, "Take", r.Take, en(id, 2, 0))
			wantNone(t, "Drop", dropOf(r, id))
		}
		wantEmpty(t, r)
	}
}

// P15.1: an entry comes out as it was put in, with all that it has, from every call.
func TestWholeEntries(t *testing.T) {
	whole := []api.Entry{
		{ID: 1, Body: 2, Size: 3, Exchange: "e", Key: "k.k", Prio: 3, TTL: 4, Until: 5, Again: true, Hops: 6},
		{ID: 0, Body: -2, Size: -3, Exchange: strings.Repeat("e", 300), Key: "\xff\x00", Prio: 2, TTL: -4, Until: 5, Hops: -6},
		{ID: -7, Body: math.MaxInt, Size: math.MinInt, Exchange: "é", Key: "", Prio: 1, TTL: math.MinInt, Until: 1, Again: true, Hops: math.MaxInt},
		{ID: 9, Body: 1 << 40, Prio: 0, Until: 2, Key: strings.Repeat("k.", 200)},
	}
	for _, e := range whole {
		calls := map[string]func(r *rack.Rack) (api.Entry, bool){
			"First": func(r *rack.Rack) (api.Entry, bool) { return r.First() },
			"Take":  func(r *rack.Rack) (api.Entry, bool) { return r.Take() },
			"Worst": func(r *rack.Rack) (api.Entry, bool) { return r.Worst() },
			"Drop":  func(r *rack.Rack) (api.Entry, bool) { return r.Drop(e.ID) },
		}
		for name, call := range calls {
			r := rackOf(t, e)
			wantOne(t, name, func() (api.Entry, bool) { return call(r) }, e)
		}
		wantGone(t, rackOf(t, e), 5, e)
	}
	r := rackOf(t, whole...)
	wantRack(t, r, whole...)
	wantGone(t, r, 5, whole...)
	wantEmpty(t, r)
}

// P15.1, P15.2: in whatever order they come, they lie by entry's Less, go from the first
// on, and each of them may be dropped.
func TestAllOrders(t *testing.T) {
	for _, all := range [][]api.Entry{
		{en(1, 0, 0), en(2, 0, 0), en(3, 0, 0), en(4, 0, 0), en(5, 0, 0)},
		{en(6, 3, 0), en(1, 2, 0), en(5, 2, 0), en(2, 1, 0), en(4, 0, 0), en(3, 0, 0)},
		{en(-1, 1, 0), en(0, 1, 0), en(1, 1, 0), en(-2, 3, 0), en(2, 3, 0)},
	} {
		want := sorted(all)
		orders(all, func(come []api.Entry) {
			r := rackOf(t, come...)
			wantRack(t, r, want...)
			for i, e := range want {
				wantOne(t, "Take", r.Take, e)
				wantRack(t, r, want[i+1:]...)
			}
			wantEmpty(t, r)
			// The same order once more, now as the one in which they are dropped.
			r = rackOf(t, want...)
			left := want
			for _, e := range come {
				wantOne(t, "Drop", dropOf(r, e.ID), e)
				wantNone(t, "Drop", dropOf(r, e.ID))
				at := slices.Index(left, e)
				left = slices.Delete(slices.Clone(left), at, at+1)
				wantRack(t, r, left...)
			}
			wantEmpty(t, r)
		})
	}
}

// P15.1: Drop takes the one with that ID, from each place of rows of each length, and no
// other one; of an ID that isn't there nothing goes.
func TestDropFromEachPlace(t *testing.T) {
	for length := range 40 {
		for at := range length {
			r := rack.New()
			var left []api.Entry
			for n := range length {
				e := en(2*n, 1+n%2, 0)
				wantPut(t, r, e, true)
				left = append(left, e)
			}
			for _, none := range []int{2*at - 1, 2*at + 1, -2, 2 * length, math.MaxInt, math.MinInt} {
				wantNone(t, "Drop", dropOf(r, none))
			}
			wantOne(t, "Drop", dropOf(r, 2*at), left[at])
			wantNone(t, "Drop", dropOf(r, 2*at))
			wantRack(t, r, sorted(slices.Delete(left, at, at+1))...)
		}
	}
}

// P15.1: Worst is of the least Prio there is, and of these the least ID, not the last
// one of all; it stays.
func TestWorst(t *testing.T) {
	for _, x := range []struct {
		all   []api.Entry
		worst int
	}{
		{[]api.Entry{en(7, 3, 0)}, 7},
		{[]api.Entry{en(7, 0, 0), en(8, 0, 0), en(9, 0, 0)}, 7},
		{[]api.Entry{en(1, 3, 0), en(2, 2, 0), en(9, 1, 0), en(8, 1, 0)}, 8},
		{[]api.Entry{en(1, 1, 0), en(9, 0, 0)}, 9},
		{[]api.Entry{en(9, 1, 0), en(1, 2, 0), en(0, 3, 0)}, 9},
		{[]api.Entry{en(-5, 2, 0), en(-6, 2, 0), en(0, 2, 0), en(-9, 3, 0)}, -6},
		{[]api.Entry{en(math.MaxInt, 0, 0), en(math.MinInt, 0, 0), en(0, 1, 0)}, math.MinInt},
	} {
		r := rackOf(t, x.all...)
		for range 3 {
			if e, ok := r.Worst(); e.ID != x.worst || !ok {
				t.Fatalf("Worst of %s: %d, %v; want %d", ids(r.All()), e.ID, ok, x.worst)
			}
			wantRack(t, r, sorted(x.all)...)
		}
	}
	// One after the other: up the Prios, of each up the IDs.
	r := rack.New()
	for n := range 20 {
		wantPut(t, r, en(19-n, n%4, 0), true)
	}
	var went []string
	for r.Len() > 0 {
		e, _ := r.Worst()
		r.Drop(e.ID)
		went = append(went, strconv.Itoa(e.ID))
	}
	if got := strings.Join(went, " "); got != "3 7 11 15 19 2 6 10 14 18 1 5 9 13 17 0 4 8 12 16" {
		t.Fatalf("worst first: %s", got)
	}
}

// P15.1: Gone takes those whose time is over, at their time, not ahead of it, of all
// Prios, in order; the others stay in theirs.
func TestGone(t *testing.T) {
	r := rackOf(t, en(1, 0, 10), en(2, 3, 11), en(3, 1, 9), en(4, 0, 0), en(5, 3, 10), en(6, 1, 10), en(7, 3, 0), en(8, 0, 9), en(9, 2, -3), en(10, 2, 1))
	wantGone(t, r, -5)
	wantGone(t, r, 0)
	wantRack(t, r, en(2, 3, 11), en(5, 3, 10), en(7, 3, 0), en(9, 2, -3), en(10, 2, 1), en(3, 1, 9), en(6, 1, 10), en(1, 0, 10), en(4, 0, 0), en(8, 0, 9))
	wantGone(t, r, 1, en(10, 2, 1))
	wantGone(t, r, 8)
	wantGone(t, r, 9, en(3, 1, 9), en(8, 0, 9))
	wantGone(t, r, 9)
	wantRack(t, r, en(2, 3, 11), en(5, 3, 10), en(7, 3, 0), en(9, 2, -3), en(6, 1, 10), en(1, 0, 10), en(4, 0, 0))
	wantGone(t, r, math.MaxInt, en(2, 3, 11), en(5, 3, 10), en(6, 1, 10), en(1, 0, 10))
	wantGone(t, r, math.MaxInt)
	wantRack(t, r, en(7, 3, 0), en(9, 2, -3), en(4, 0, 0))
}

// P15.1: Gone of each set of some entries.
func TestGoneOfEachSet(t *testing.T) {
	for set := range 1 << 8 {
		r := rack.New()
		var goes, stays []api.Entry
		for n := range 8 {
			e := en(n, n*3/8, 6)
			if set>>n&1 == 1 {
				e.Until = 5
				goes = append(goes, e)
			} else {
				stays = append(stays, e)
			}
			wantPut(t, r, e, true)
		}
		wantGone(t, r, 4)
		wantGone(t, r, 5, sorted(goes)...)
		wantRack(t, r, sorted(stays)...)
		for _, e := range goes {
			wantNone(t, "Drop", dropOf(r, e.ID))
		}
		wantGone(t, r, 6, sorted(stays)...)
		wantEmpty(t, r)
	}
}

// P15.1: asking changes nothing.
func TestAskingChangesNothing(t *testing.T) {
	r := rack.New()
	var all []api.Entry
	for n := range 60 {
		e := en(n*7%60, n%4, 0)
		wantPut(t, r, e, true)
		all = append(all, e)
		for range 3 {
			wantRack(t, r, sorted(all)...)
			wantGone(t, r, math.MaxInt)
			wantNone(t, "Drop", dropOf(r, 60))
		}
	}
}

// P15.1: what is answered is new each time, its spare room too, and no answer is touched
// by what comes later.
func TestAnswersAreNew(t *testing.T) {
	scratch := func(list []api.Entry) {
		list = list[:cap(list)]
		for i := range list {
			list[i] = en(-1, -1, -1)
		}
	}
	for length := range 30 {
		r := rack.New()
		var all []api.Entry
		for n := range length {
			all = append(all, en(n, n%4, 0), en(n+100, n%4, 7))
		}
		for _, e := range all {
			wantPut(t, r, e, true)
		}
		before := r.All()
		scratch(r.All())
		wantRack(t, r, sorted(all)...)
		gone := r.Gone(7)
		want := slices.Clone(gone)
		scratch(before)
		scratch(r.All())
		if r.Take(); !slices.Equal(gone, want) || len(gone) != length {
			t.Fatalf("an earlier answer was touched: %s; it was %s", ids(gone), ids(want))
		}
		scratch(gone)
		all = slices.DeleteFunc(all, func(e api.Entry) bool { return e.Until == 7 })
		wantRack(t, r, sorted(all)[min(1, length):]...)
	}
}

// P15.1: one rack doesn't know of another one.
func TestRacksAreApart(t *testing.T) {
	a, b := rack.New(), rack.New()
	for n := range 20 {
		wantPut(t, a, en(n, 1, 5), true)
	}
	wantEmpty(t, b)
	wantPut(t, b, en(3, 2, 5), true)
	a.Drop(3)
	wantGone(t, a, 4)
	wantRack(t, b, en(3, 2, 5))
	a.Gone(5)
	wantEmpty(t, a)
	wantRack(t, b, en(3, 2, 5))
}

// P15.2: one that comes back lies where it was, from wherever it was taken, in rows of
// each length.
func TestComesBack(t *testing.T) {
	for length := range 40 {
		r := rack.New()
		var all []api.Entry
		for n := range length {
			e := en(n, n*4/40, n+1)
			wantPut(t, r, e, true)
			all = append(all, e)
		}
		for _, e := range all {
			wantOne(t, "Drop", dropOf(r, e.ID), e)
			e.Again = true
			wantPut(t, r, e, true)
			all[e.ID] = e
			wantRack(t, r, sorted(all)...)
		}
	}
}

// P15.2: some that were taken come back in whatever order: they are ahead again, as they
// were, though others came meanwhile.
func TestSomeComeBack(t *testing.T) {
	r := rack.New()
	var rest []api.Entry
	for n := range 30 {
		e := en(n, 1+n%3, 0)
		wantPut(t, r, e, true)
		rest = append(rest, e)
	}
	var taken []api.Entry
	for range 5 {
		e, _ := r.Take()
		taken = append(taken, e)
		rest = slices.DeleteFunc(rest, func(o api.Entry) bool { return o.ID == e.ID })
	}
	for n := range 6 {
		e := en(30+n, n%4, 0)
		wantPut(t, r, e, true)
		rest = append(rest, e)
	}
	orders(taken, func(come []api.Entry) {
		there := slices.Clone(rest)
		for _, e := range come {
			wantPut(t, r, e, true)
			there = append(there, e)
			wantRack(t, r, sorted(there)...)
		}
		for _, e := range taken {
			wantOne(t, "Take", r.Take, e)
		}
		wantRack(t, r, sorted(rest)...)
	})
}
