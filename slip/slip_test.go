package slip_test

import (
	"math"
	"slices"
	"strconv"
	"strings"
	"testing"

	"mailcoach/api"
	"mailcoach/slip"
)

// edges are ints at which something may turn.
var edges = []int{math.MinInt, math.MinInt + 1, -1 << 32, -1000000, -256, -2, -1, 0, 1, 2, 255, 256, 999, 1000, 1001, 999999, 1000000, 1000001, 1 << 32, 1<<32 + 1, math.MaxInt - 1, math.MaxInt}

// of is a slip of that consumer, whose other parts tell its tag too.
func of(consumer string, tag int) api.Slip {
	return api.Slip{Tag: tag, Queue: tag % 7, Consumer: consumer, Entry: api.Entry{ID: tag + 100, Key: strconv.Itoa(tag)}}
}

// sl is a slip of which the tag alone tells.
func sl(tag int) api.Slip { return of("c", tag) }

// sls are those of which the tag alone tells, in that order.
func sls(tags ...int) []api.Slip {
	var all []api.Slip
	for _, tag := range tags {
		all = append(all, sl(tag))
	}
	return all
}

// slipsOf are those, added in their order.
func slipsOf(t *testing.T, all ...api.Slip) *slip.Slips {
	t.Helper()
	s := slip.New()
	for _, x := range all {
		wantAdd(t, s, x)
	}
	return s
}

// tags tells slips shortly.
func tags(all []api.Slip) string {
	var words []string
	for _, x := range all {
		words = append(words, strconv.Itoa(x.Tag)+"/"+x.Consumer)
	}
	if len(words) > 50 {
		return strconv.Itoa(len(words)) + " of them"
	}
	return strings.Join(words, " ")
}

// byTag are those by tag.
func byTag(all []api.Slip) []api.Slip {
	all = slices.Clone(all)
	slices.SortFunc(all, func(a, b api.Slip) int { return a.Tag - b.Tag })
	return all
}

// without are those but the ones of those tags.
func without(all []api.Slip, tags ...int) []api.Slip {
	return slices.DeleteFunc(slices.Clone(all), func(x api.Slip) bool { return slices.Contains(tags, x.Tag) })
}

// wantAdd: it wasn't there, and is there now.
func wantAdd(t *testing.T, s *slip.Slips, x api.Slip) {
	t.Helper()
	had, n, its := s.Has(x.Tag), s.Len(), s.Of(x.Consumer)
	if ok := s.Add(x); !ok || had || !s.Has(x.Tag) || s.Len() != n+1 || s.Of(x.Consumer) != its+1 {
		t.Fatalf("Add(%.200v): %v; there %v, then %v", x, ok, had, s.Has(x.Tag))
	}
}

// wantRefused: it isn't added, and nothing is changed.
func wantRefused(t *testing.T, s *slip.Slips, x api.Slip) {
	t.Helper()
	was := s.All()
	if s.Add(x) {
		t.Fatalf("Add(%.200v): true", x)
	}
	wantSlips(t, s, was...)
}

// wantTake: that one goes, whole.
func wantTake(t *testing.T, s *slip.Slips, want api.Slip) {
	t.Helper()
	if got, ok := s.Take(want.Tag); got != want || !ok || s.Has(want.Tag) {
		t.Fatalf("Take(%d): %.200v, %v; want %.200v", want.Tag, got, ok, want)
	}
}

// wantNone: there is none of that tag.
func wantNone(t *testing.T, s *slip.Slips, tag int) {
	t.Helper()
	if got, ok := s.Take(tag); got != (api.Slip{}) || ok || s.Has(tag) {
		t.Fatalf("Take(%d): %.200v, %v, there %v; want none", tag, got, ok, s.Has(tag))
	}
}

func wantUpto(t *testing.T, s *slip.Slips, tag int, want ...api.Slip) {
	t.Helper()
	if got := s.Upto(tag); !slices.Equal(got, want) {
		t.Fatalf("Upto(%d): %s; want %s", tag, tags(got), tags(want))
	}
}

// wantSlips: those are there, whole, by tag, and none beside them.
func wantSlips(t *testing.T, s *slip.Slips, want ...api.Slip) {
	t.Helper()
	if got := s.All(); !slices.Equal(got, want) || s.Len() != len(want) {
		t.Fatalf("%s, %d; want %s, %d", tags(got), s.Len(), tags(want), len(want))
	}
	there, counts := map[int]bool{}, map[string]int{"": 0, "c": 0, "nobody": 0}
	for _, x := range want {
		there[x.Tag] = true
		counts[x.Consumer]++
	}
	for _, x := range append(want[:len(want):len(want)], sls(edges...)...) {
		for tag := x.Tag - 1; tag <= x.Tag && tag < math.MaxInt; tag++ {
			if s.Has(tag) != there[tag] {
				t.Fatalf("Has(%d): %v", tag, s.Has(tag))
			}
		}
	}
	for consumer, n := range counts {
		if got := s.Of(consumer); got != n {
			t.Fatalf("Of(%.50q): %d; want %d", consumer, got, n)
		}
	}
}

// wantEmpty: nothing is there, whatever is asked.
func wantEmpty(t *testing.T, s *slip.Slips) {
	t.Helper()
	for range 2 {
		wantSlips(t, s)
		for _, n := range edges {
			wantNone(t, s, n)
			wantUpto(t, s, n)
		}
	}
}

// orders hands over all orders of those.
func orders(all []api.Slip, do func([]api.Slip)) {
	var lay func(laid, left []api.Slip)
	lay = func(laid, left []api.Slip) {
		if len(left) == 0 {
			do(laid)
		}
		for i, x := range left {
			lay(append(slices.Clone(laid), x), slices.Delete(slices.Clone(left), i, i+1))
		}
	}
	lay(nil, all)
}

// P17.1: new Slips are none, nor are those that nobody made; both go on from there, by
// whatever call.
func TestNew(t *testing.T) {
	for _, made := range []func() *slip.Slips{slip.New, func() *slip.Slips { return &slip.Slips{} }} {
		s := made()
		wantEmpty(t, s)
		wantRefused(t, s, sl(0))
		wantEmpty(t, s)
		wantAdd(t, s, sl(5))
		wantSlips(t, s, sl(5))
		wantTake(t, s, sl(5))
		wantEmpty(t, s)
		// Each call is the first one once.
		if !made().Add(sl(5)) || made().Add(sl(0)) || made().Has(5) || made().Of("c") != 0 || made().Len() != 0 || len(made().All()) != 0 {
			t.Fatal("a first call")
		}
		wantNone(t, made(), 5)
		wantUpto(t, made(), 5)
		wantUpto(t, made(), 0)
	}
}

// P17.1: the example: Tags 1, 2, 4: Upto(2) two.
func TestExample(t *testing.T) {
	s := slipsOf(t, sls(1, 2, 4)...)
	wantUpto(t, s, 2, sls(1, 2)...)
	wantSlips(t, s, sl(4))
}

// P17.1: every tag from 1 to MaxTime may be there, none beside them; a refused one changes
// nothing.
func TestWhichTags(t *testing.T) {
	if api.MaxTime != 1000000 {
		t.Fatal("the limit is not that of package api")
	}
	s := slip.New()
	var there []api.Slip
	for range 2 {
		for _, tag := range edges {
			switch {
			case tag < 1 || tag > 1000000:
				wantRefused(t, s, sl(tag))
				wantNone(t, s, tag)
			case len(there) < 9:
				wantAdd(t, s, sl(tag))
				there = append(there, sl(tag))
			default:
				wantRefused(t, s, of("other", tag))
			}
			wantSlips(t, s, there...)
		}
	}
	if tags(there) != "1/c 2/c 255/c 256/c 999/c 1000/c 1001/c 999999/c 1000000/c" {
		t.Fatal(tags(there))
	}
	for _, x := range there {
		wantTake(t, s, x)
	}
	wantEmpty(t, s)
}

// P17.2: a tag that is there is refused, whatever comes with it, and what was there stays
// as it was.
func TestEachTagOnce(t *testing.T) {
	for _, others := range [][]int{{}, {4, 6}, {1, 2, 3, 4, 6, 7}, {3, 7}, {1, 1000000}} {
		s := slipsOf(t, append(sls(others...), sl(5))...)
		want := byTag(append(sls(others...), sl(5)))
		for _, x := range want {
			wantRefused(t, s, x)
			wantRefused(t, s, of("", x.Tag))
			wantRefused(t, s, of("other", x.Tag))
			wantRefused(t, s, api.Slip{Tag: x.Tag, Queue: -1, Consumer: "c", Entry: api.Entry{ID: -1, Again: true}})
		}
		wantUpto(t, s, 0, want...)
	}
}

// P17.2: of one tag there is one again, once the other one went, however it went.
func TestTagsAreFreeAgain(t *testing.T) {
	for _, goes := range []func(s *slip.Slips){
		func(s *slip.Slips) { s.Take(5) },
		func(s *slip.Slips) { s.Upto(5) },
		func(s *slip.Slips) { s.Upto(0) },
		func(s *slip.Slips) { s.Upto(math.MaxInt) },
	} {
		for _, others := range [][]int{{}, {6}, {6, 7}, {7, 9}} {
			s := slipsOf(t, append(sls(others...), sl(5))...)
			goes(s)
			left := s.All()
			wantSlips(t, s, left...)
			wantNone(t, s, 5)
			wantAdd(t, s, of("again", 5))
			wantRefused(t, s, sl(5))
			wantSlips(t, s, append([]api.Slip{of("again", 5)}, left...)...)
			wantTake(t, s, of("again", 5))
			wantNone(t, s, 5)
			wantSlips(t, s, left...)
		}
	}
}

// P17.1: a slip comes out as it was added, with all that it has, from every call.
func TestWholeSlips(t *testing.T) {
	whole := []api.Slip{
		{Tag: 1, Queue: 2, Consumer: "c", Entry: api.Entry{ID: 1, Body: 2, Size: 3, Exchange: "e", Key: "k.k", Prio: 3, TTL: 4, Until: 5, Again: true, Hops: 6}},
		{Tag: 2, Queue: -2, Consumer: strings.Repeat("c", 300), Entry: api.Entry{ID: -1, Body: -2, Size: -3, Exchange: strings.Repeat("e", 300), Key: "\xff\x00", Prio: -3, TTL: -4, Until: -5, Hops: -6}},
		{Tag: 3},
		{Tag: 4, Queue: math.MaxInt, Consumer: "\xff\x00é", Entry: api.Entry{ID: math.MinInt, Body: math.MaxInt, Size: math.MinInt, Prio: math.MaxInt, TTL: math.MinInt, Until: math.MaxInt, Hops: math.MaxInt}},
		{Tag: 1000000, Queue: math.MinInt, Entry: api.Entry{ID: math.MaxInt, Exchange: "é"}},
	}
	for _, x := range whole {
		wantTake(t, slipsOf(t, x), x)
		wantUpto(t, slipsOf(t, x), x.Tag, x)
		wantUpto(t, slipsOf(t, x), 0, x)
		wantSlips(t, slipsOf(t, x), x)
	}
	s := slipsOf(t, whole...)
	wantSlips(t, s, whole...)
	wantUpto(t, s, 0, whole...)
}

// P17.1: in whatever order they come and go, they are there by tag.
func TestAllOrders(t *testing.T) {
	for _, all := range [][]api.Slip{sls(1, 2, 3, 4, 5, 6), sls(1, 2, 4, 6, 7, 1000000), {of("b", 3), of("a", 5), of("", 7), of("a", 9), of("b", 11)}} {
		orders(all, func(come []api.Slip) {
			s := slip.New()
			var there []api.Slip
			for _, x := range come {
				wantAdd(t, s, x)
				there = append(there, x)
				wantSlips(t, s, byTag(there)...)
			}
			for _, x := range come {
				wantTake(t, s, x)
				there = without(there, x.Tag)
				wantSlips(t, s, byTag(there)...)
			}
		})
	}
}

// P17.1: Take takes the one with that tag, from each place, and no other one; of a tag
// that isn't there nothing goes.
func TestTake(t *testing.T) {
	for _, step := range []int{1, 2, 1000} {
		for length := range 20 {
			var all []api.Slip
			for n := range length {
				all = append(all, sl(step*(n+1)))
			}
			for _, x := range all {
				s := slipsOf(t, all...)
				for _, none := range []int{0, -x.Tag, x.Tag + 1<<32, step*length + 1, math.MaxInt, math.MinInt} {
					wantNone(t, s, none)
				}
				wantTake(t, s, x)
				wantNone(t, s, x.Tag)
				wantSlips(t, s, without(all, x.Tag)...)
			}
		}
	}
}

// P17.1: Upto takes all with a tag not above that one, by tag; 0 takes all, what is below
// 0 none.
func TestUpto(t *testing.T) {
	all := sls(1000000, 7, 2, 1, 9, 8, 20)
	for _, x := range []struct {
		tag  int
		want []int
	}{
		{0, []int{1, 2, 7, 8, 9, 20, 1000000}},
		{1, []int{1}}, {2, []int{1, 2}}, {3, []int{1, 2}}, {6, []int{1, 2}}, {7, []int{1, 2, 7}}, {8, []int{1, 2, 7, 8}}, {9, []int{1, 2, 7, 8, 9}},
		{19, []int{1, 2, 7, 8, 9}}, {20, []int{1, 2, 7, 8, 9, 20}}, {999999, []int{1, 2, 7, 8, 9, 20}},
		{1000000, []int{1, 2, 7, 8, 9, 20, 1000000}}, {1000001, []int{1, 2, 7, 8, 9, 20, 1000000}}, {1 << 40, []int{1, 2, 7, 8, 9, 20, 1000000}}, {math.MaxInt, []int{1, 2, 7, 8, 9, 20, 1000000}},
		{-1, nil}, {-2, nil}, {-1000000, nil}, {-1 << 32, nil}, {math.MinInt, nil}, {math.MinInt + 1, nil},
	} {
		s := slipsOf(t, all...)
		wantUpto(t, s, x.tag, sls(x.want...)...)
		left := without(byTag(all), x.want...)
		wantSlips(t, s, left...)
		if x.tag != 0 {
			wantUpto(t, s, x.tag)
		}
		for _, tag := range x.want {
			wantNone(t, s, tag)
		}
		wantUpto(t, s, 0, left...)
		wantEmpty(t, s)
	}
}

// P17.1: Upto of each set of some tags.
func TestUptoOfEachSet(t *testing.T) {
	for set := range 1 << 9 {
		var all []api.Slip
		for n := range 9 {
			if set>>n&1 == 1 {
				all = append(all, of(strings.Repeat("c", n%3), n+1))
			}
		}
		for tag := 1; tag < 11; tag++ {
			s := slipsOf(t, all...)
			at := 0
			for at < len(all) && all[at].Tag <= tag {
				at++
			}
			wantUpto(t, s, tag, all[:at]...)
			wantSlips(t, s, all[at:]...)
		}
	}
}

// P17.1: however many there are, in one row of tags or with holes between them, All and
// Upto tell all of them.
func TestMany(t *testing.T) {
	const most = 5000
	for _, step := range []int{1, 2, 199} {
		s := slip.New()
		var all []api.Slip
		for n := range most {
			x := of("c"+strconv.Itoa(n%3), 1+n*step)
			wantAdd(t, s, x)
			all = append(all, x)
		}
		for range 2 {
			wantSlips(t, s, all...)
		}
		wantUpto(t, s, 1+999*step, all[:1000]...)
		wantUpto(t, s, 1+2000*step, all[1000:2001]...)
		wantSlips(t, s, all[2001:]...)
		wantUpto(t, s, 0, all[2001:]...)
		wantEmpty(t, s)
	}
}

// P17.1: Of tells how many are of just that consumer, while they come and go.
func TestOf(t *testing.T) {
	names := []string{"", "c", "C", "cc", "c ", " c", "c\x00", "\x00", "é", "e\u0301", "\xff", "\xfe", "\ufffd", strings.Repeat("c", 300), strings.Repeat("c", 299) + "d"}
	s := slip.New()
	var all []api.Slip
	for tag := 1; tag <= 300; tag++ {
		x := of(names[tag*tag%len(names)], tag)
		wantAdd(t, s, x)
		all = append(all, x)
	}
	counts := func() {
		t.Helper()
		wantSlips(t, s, all...)
		for _, name := range names {
			n := 0
			for _, x := range all {
				if x.Consumer == name {
					n++
				}
			}
			if got := s.Of(name); got != n {
				t.Fatalf("Of(%.9q): %d; want %d", name, got, n)
			}
		}
	}
	counts()
	wantRefused(t, s, of("c", 7))
	wantRefused(t, s, of("c", 0))
	counts()
	for _, tag := range []int{300, 100, 7, 1} {
		x, _ := s.Take(tag)
		wantNone(t, s, tag)
		all = without(all, x.Tag)
		counts()
	}
	for _, upto := range []int{10, 11, 150, 290} {
		all = all[len(s.Upto(upto)):]
		counts()
	}
	s.Upto(0)
	all = nil
	counts()
}

// P17.1: asking changes nothing, nor does what isn't there.
func TestAskingChangesNothing(t *testing.T) {
	s := slip.New()
	var all []api.Slip
	for n := range 60 {
		x := of("c", 2*(n*7%60+1))
		wantAdd(t, s, x)
		all = append(all, x)
		for range 3 {
			wantSlips(t, s, byTag(all)...)
			wantNone(t, s, x.Tag+1)
			wantUpto(t, s, 1)
			wantUpto(t, s, -1)
		}
	}
}

// P17.1: what is answered is new each time, its spare room too, and no answer is touched
// by what comes later.
func TestAnswersAreNew(t *testing.T) {
	scratch := func(list []api.Slip) {
		list = list[:cap(list)]
		for i := range list {
			list[i] = of("scratched", -1)
		}
	}
	for _, step := range []int{1, 2} {
		for length := range 30 {
			var all []api.Slip
			for n := range length {
				all = append(all, sl(1+n*step))
			}
			s := slipsOf(t, all...)
			before := s.All()
			scratch(s.All())
			wantSlips(t, s, all...)
			went := s.Upto(1 + length/2*step)
			want := slices.Clone(went)
			scratch(before)
			scratch(s.All())
			rest := s.Upto(1 + 3*length/4*step)
			scratch(rest)
			wantAdd(t, s, sl(1000000))
			if !slices.Equal(went, want) {
				t.Fatalf("an earlier answer was touched: %s; it was %s", tags(went), tags(want))
			}
			scratch(went)
			wantSlips(t, s, append(all[len(went)+len(rest):], sl(1000000))...)
		}
	}
}

// P17.1: Slips don't know of other ones.
func TestSlipsAreApart(t *testing.T) {
	a, b := slip.New(), slip.New()
	for n := range 20 {
		wantAdd(t, a, sl(n+1))
	}
	wantEmpty(t, b)
	wantAdd(t, b, of("b", 3))
	wantTake(t, a, sl(3))
	wantSlips(t, b, of("b", 3))
	a.Upto(0)
	wantEmpty(t, a)
	wantSlips(t, b, of("b", 3))
}
