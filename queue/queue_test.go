package queue_test

import (
	"math"
	"slices"
	"strconv"
	"strings"
	"testing"

	"mailcoach/api"
	"mailcoach/queue"
)

// edges are ints at which something may turn.
var edges = []int{math.MinInt, -1 << 32, -256, -2, -1, 0, 1, 2, 3, 4, 59, 60, 61, 255, 256, 1 << 32, math.MaxInt}

// en is an entry of which ID and Prio alone tell.
func en(id, prio int) api.Entry { return api.Entry{ID: id, Prio: prio} }

// back is an entry as it is once it came back.
func back(e api.Entry) api.Entry {
	e.Again = true
	return e
}

// queueOf is a queue with those, put in their order at 0; none of them is too much.
func queueOf(t *testing.T, o api.Options, all ...api.Entry) *queue.Queue {
	t.Helper()
	q := queue.New(o)
	for _, e := range all {
		wantTaken(t, q, e, 0)
	}
	return q
}

// full is a queue with those, and with no room for one more.
func full(t *testing.T, o api.Options, all ...api.Entry) *queue.Queue {
	t.Helper()
	o.MaxLen, o.Prio = len(all), 3
	return queueOf(t, o, all...)
}

// ids tells entries shortly.
func ids(all []api.Entry) string {
	var words []string
	for _, e := range all {
		words = append(words, strconv.Itoa(e.Prio)+"/"+strconv.Itoa(e.ID))
	}
	return strings.Join(words, " ")
}

func wantPut(t *testing.T, q *queue.Queue, e api.Entry, now int, want bool, went ...api.Entry) {
	t.Helper()
	if got, list := q.Put(e, now); got != want || !slices.Equal(list, went) {
		t.Fatalf("Put(%.200v, %d): %v, %s; want %v, %s", e, now, got, ids(list), want, ids(went))
	}
}

// wantTaken: it is put, and those go for it.
func wantTaken(t *testing.T, q *queue.Queue, e api.Entry, now int, went ...api.Entry) {
	t.Helper()
	wantPut(t, q, e, now, true, went...)
}

// wantRefused: it isn't put, and nothing is changed.
func wantRefused(t *testing.T, q *queue.Queue, e api.Entry, now int) {
	t.Helper()
	was := q.All()
	wantPut(t, q, e, now, false)
	wantQueue(t, q, was...)
}

func wantBack(t *testing.T, q *queue.Queue, e api.Entry, want bool) {
	t.Helper()
	was := q.All()
	if got := q.Back(e); got != want {
		t.Fatalf("Back(%.200v): %v; want %v", e, got, want)
	}
	if !want {
		wantQueue(t, q, was...)
	}
}

// wantTake: the first one goes, whole.
func wantTake(t *testing.T, q *queue.Queue, want api.Entry) {
	t.Helper()
	if got, ok := q.Take(); got != want || !ok {
		t.Fatalf("Take: %.200v, %v; want %.200v", got, ok, want)
	}
}

func wantGone(t *testing.T, q *queue.Queue, now int, want ...api.Entry) {
	t.Helper()
	if got := q.Gone(now); !slices.Equal(got, want) {
		t.Fatalf("Gone(%d): %s; want %s", now, ids(got), ids(want))
	}
}

func wantPurge(t *testing.T, q *queue.Queue, want ...api.Entry) {
	t.Helper()
	if got := q.Purge(); !slices.Equal(got, want) {
		t.Fatalf("Purge: %s; want %s", ids(got), ids(want))
	}
}

// wantQueue: those are there, whole, in that order.
func wantQueue(t *testing.T, q *queue.Queue, want ...api.Entry) {
	t.Helper()
	if got := q.All(); !slices.Equal(got, want) || q.Len() != len(want) {
		t.Fatalf("%s, %d; want %s, %d", ids(got), q.Len(), ids(want), len(want))
	}
}

// wantEmpty: nothing is there, whatever is asked.
func wantEmpty(t *testing.T, q *queue.Queue) {
	t.Helper()
	for range 2 {
		wantQueue(t, q)
		wantPurge(t, q)
		if e, ok := q.Take(); e != (api.Entry{}) || ok {
			t.Fatalf("Take: %.200v, %v; want none", e, ok)
		}
		for _, n := range edges {
			wantGone(t, q, n)
		}
	}
}

// P16.1: in a new queue there is nothing, nor in one that nobody made; both go on from there.
func TestNew(t *testing.T) {
	for _, made := range []func() *queue.Queue{
		func() *queue.Queue { return queue.New(api.Options{}) },
		func() *queue.Queue { return &queue.Queue{} },
	} {
		q := made()
		if got := q.Options(); got != (api.Options{}) {
			t.Fatalf("Options: %v", got)
		}
		wantEmpty(t, q)
		wantTaken(t, q, en(1, 3), 5)
		wantTake(t, q, en(1, 0))
		wantEmpty(t, q)
		// Each of those that change something is the first call once.
		wantTaken(t, made(), en(1, 3), 5)
		wantBack(t, made(), en(1, 3), true)
		wantGone(t, made(), 5)
		wantPurge(t, made())
		if e, ok := made().Take(); e != (api.Entry{}) || ok {
			t.Fatalf("Take: %v, %v", e, ok)
		}
	}
}

// P16.1: Options are those of New, whatever they are and whatever is done.
func TestOptions(t *testing.T) {
	all := []api.Options{
		{},
		{Dead: "dead", DeadKey: "a.b", MaxLen: 7, TTL: 50, Prio: 2, Bits: api.Exclusive | api.RejectNew},
		{Bits: api.Passive}, {Bits: 15}, {Bits: -1}, {Bits: math.MinInt},
		{Dead: strings.Repeat("d", 13), DeadKey: strings.Repeat("k", 41), MaxLen: 61, TTL: 10001, Prio: 4, Bits: 16},
		{Dead: "\xff\x00", DeadKey: "é", MaxLen: math.MaxInt, TTL: math.MaxInt, Prio: math.MaxInt, Bits: math.MaxInt},
		{MaxLen: math.MinInt, TTL: math.MinInt, Prio: math.MinInt},
	}
	for _, o := range all {
		q := queue.New(o)
		for n := range 3 {
			if got := q.Options(); got != o {
				t.Fatalf("Options: %v; want %v", got, o)
			}
			q.Put(en(n, n), n)
			q.Back(en(n, n))
			q.Gone(n)
			q.Purge()
		}
	}
}

// P16.1: the example: MaxLen 1: the second Put drops the first one.
func TestExample(t *testing.T) {
	q := queueOf(t, api.Options{MaxLen: 1}, en(1, 0))
	wantTaken(t, q, en(2, 0), 0, en(1, 0))
	wantQueue(t, q, en(2, 0))
}

// P16.1: it is there as entry's For has it: its Prio at most the queue's and at least 0,
// its Until by the lesser TTL from now on; all else is as it came.
func TestPutFor(t *testing.T) {
	whole := api.Entry{ID: 7, Body: 2, Size: 3, Exchange: "e", Key: "k.k", Until: 5, Again: true, Hops: 6}
	for _, x := range []struct {
		prio, ttl, now int
		o              api.Options
		wantPrio, want int
	}{
		{0, 0, 100, api.Options{}, 0, 0},
		{3, 0, 100, api.Options{}, 0, 0},
		{3, 0, 100, api.Options{Prio: 2}, 2, 0},
		{1, 0, 100, api.Options{Prio: 2}, 1, 0},
		{255, 0, 100, api.Options{Prio: 3}, 3, 0},
		{-1, 0, 100, api.Options{Prio: 3}, 0, 0},
		{math.MinInt, 0, 100, api.Options{Prio: 3}, 0, 0},
		{2, 0, 100, api.Options{Prio: -1}, 0, 0},
		{3, 0, 100, api.Options{Prio: 9}, 3, 0},
		{0, 50, 100, api.Options{}, 0, 150},
		{0, 0, 100, api.Options{TTL: 30}, 0, 130},
		{0, 50, 100, api.Options{TTL: 30}, 0, 130},
		{0, 20, 100, api.Options{TTL: 30}, 0, 120},
		{0, 1, 0, api.Options{}, 0, 1},
		{0, -5, 100, api.Options{TTL: 30}, 0, 130},
		{0, 20, 100, api.Options{TTL: -30}, 0, 120},
		{0, -5, 100, api.Options{TTL: -30}, 0, 0},
		{2, 10000, 1000000, api.Options{Prio: 1, TTL: 10000}, 1, 1010000},
	} {
		e := whole
		e.Prio, e.TTL = x.prio, x.ttl
		want := e
		want.Prio, want.Until = x.wantPrio, x.want
		q := queue.New(x.o)
		wantTaken(t, q, e, x.now)
		wantQueue(t, q, want)
		wantTake(t, q, want)
	}
	never := api.Entry{ID: 8}
	q := queueOf(t, api.Options{}, never)
	wantQueue(t, q, never)
}

// P16.1: each Put is at its own time.
func TestPutAtTimes(t *testing.T) {
	q := queue.New(api.Options{TTL: 10})
	for n, now := range []int{5, 0, 7, 1000000, 6} {
		wantTaken(t, q, en(n, 0), now)
	}
	var untils []int
	for _, e := range q.All() {
		untils = append(untils, e.Until)
	}
	if !slices.Equal(untils, []int{15, 10, 17, 1000010, 16}) {
		t.Fatalf("until %v", untils)
	}
}

// P16.1: a Prio above MaxPrio, that a queue's too great Prio lets through, is refused, and
// nothing goes for it.
func TestPutOfTooGreatPrio(t *testing.T) {
	for _, most := range []int{4, 9, 256, math.MaxInt} {
		q := queueOf(t, api.Options{Prio: most, MaxLen: 2}, en(1, 3))
		for _, prio := range []int{4, 5, 255, 256, 1 << 32, 1<<32 + 1, math.MaxInt} {
			wantRefused(t, q, en(9, prio), 0)
		}
		wantTaken(t, q, en(2, -9), 0)
		wantRefused(t, q, en(9, 4), 0)
		wantQueue(t, q, en(1, 3), en(2, 0))
		wantTaken(t, q, en(9, 3), 0, en(2, 0))
	}
	// The queue's Prio counts, not the entry's.
	wantTaken(t, queue.New(api.Options{Prio: 3}), en(1, math.MaxInt), 0)
}

// P16.1: an ID that is there is refused, of whatever Prio it comes, whether there is room
// or not, however the one that is there came; that stays as it was, and nothing goes.
func TestPutOfAnIDThatIsThere(t *testing.T) {
	came := map[string]func(q *queue.Queue, e api.Entry){
		"put":  func(q *queue.Queue, e api.Entry) { wantTaken(t, q, e, 0) },
		"back": func(q *queue.Queue, e api.Entry) { wantBack(t, q, e, true) },
	}
	for _, bits := range []int{0, api.RejectNew} {
		for _, room := range []int{3, 4, 60} {
			for _, come := range came {
				q := queueOf(t, api.Options{MaxLen: room, Prio: 3, Bits: bits}, en(4, 0), en(6, 3))
				come(q, api.Entry{ID: 5, Prio: 1, Key: "first", Until: 0})
				for prio := -1; prio <= 4; prio++ {
					for _, id := range []int{4, 5, 6} {
						wantRefused(t, q, api.Entry{ID: id, Prio: prio, Key: "second", TTL: 9}, 7)
					}
				}
			}
		}
	}
}

// P16.1: an ID is free again once it went, however it went.
func TestIDsAreFreeAgain(t *testing.T) {
	for _, goes := range []func(q *queue.Queue){
		func(q *queue.Queue) { q.Take() },
		func(q *queue.Queue) { q.Gone(9) },
		func(q *queue.Queue) { q.Purge() },
		func(q *queue.Queue) { q.Put(en(4, 3), 0); q.Put(en(6, 3), 0); q.Take() }, // as the worst one
	} {
		for prio := range 4 {
			q := queue.New(api.Options{MaxLen: 2, Prio: 3})
			wantTaken(t, q, api.Entry{ID: 5, Prio: 2, TTL: 9}, 0)
			goes(q)
			wantTaken(t, q, en(5, prio), 0)
			wantRefused(t, q, en(5, prio), 0)
			wantBack(t, q, en(5, prio), false)
		}
	}
}

// P16.1: so many as the limit are taken, and none goes; of one more the worst one goes:
// MaxLen where that is from 1 to MaxReady, else MaxReady.
func TestLimits(t *testing.T) {
	limits := map[int]int{}
	for n := 1; n <= 60; n++ {
		limits[n], limits[-n], limits[60+n] = n, 60, 60
	}
	for _, n := range edges {
		if n < 1 || n > 60 {
			limits[n] = 60
		}
	}
	for most, limit := range limits {
		q := queue.New(api.Options{MaxLen: most})
		r := queue.New(api.Options{MaxLen: most, Bits: api.RejectNew})
		var there []api.Entry
		for id := range limit {
			wantTaken(t, q, en(id, 0), 0)
			wantTaken(t, r, en(id, 0), 0)
			there = append(there, en(id, 0))
		}
		wantRefused(t, r, en(limit, 0), 0)
		wantQueue(t, q, there...)
		for id := limit; id < limit+70; id++ {
			wantTaken(t, q, en(id, 0), 0, en(id-limit, 0))
			there = append(there[1:], en(id, 0))
			wantQueue(t, q, there...)
		}
	}
	if api.MaxReady != 60 {
		t.Error("the limit is not that of package api")
	}
}

// P16.1: the worst one goes: of the least Prio the least ID, not the last one of all.
func TestTheWorstGoes(t *testing.T) {
	for _, x := range []struct {
		there []api.Entry
		comes api.Entry
		goes  api.Entry
	}{
		{[]api.Entry{en(1, 0), en(2, 0), en(3, 0)}, en(4, 0), en(1, 0)},
		{[]api.Entry{en(3, 0), en(2, 0), en(1, 0)}, en(4, 0), en(1, 0)},
		{[]api.Entry{en(1, 1), en(2, 0), en(3, 0)}, en(4, 3), en(2, 0)},
		{[]api.Entry{en(1, 3), en(2, 2), en(3, 1)}, en(4, 2), en(3, 1)},
		{[]api.Entry{en(1, 3), en(2, 3), en(3, 3)}, en(4, 3), en(1, 3)},
		// The new one never, though there be none worse.
		{[]api.Entry{en(1, 3), en(2, 3), en(3, 3)}, en(4, 0), en(1, 3)},
		{[]api.Entry{en(1, 3), en(2, 2), en(3, 1)}, en(4, 0), en(3, 1)},
		{[]api.Entry{en(5, 0), en(6, 0), en(7, 0)}, en(4, 0), en(5, 0)},
		{[]api.Entry{en(5, 2)}, en(4, 0), en(5, 2)},
		{[]api.Entry{en(math.MaxInt, 0), en(0, 1)}, en(math.MinInt, 0), en(math.MaxInt, 0)},
	} {
		q := full(t, api.Options{}, x.there...)
		wantTaken(t, q, x.comes, 0, x.goes)
		left := slices.DeleteFunc(append(slices.Clone(x.there), x.comes), func(e api.Entry) bool { return e == x.goes })
		wantQueue(t, q, sorted(left)...)
	}
}

// P16.1: the new one counts as entry's For has it: a Prio above the queue's own doesn't.
func TestTheWorstByTheQueuesPrio(t *testing.T) {
	q := queue.New(api.Options{MaxLen: 2, Prio: 1})
	wantTaken(t, q, en(1, 3), 0)
	wantTaken(t, q, en(2, 1), 0)
	wantTaken(t, q, en(3, 2), 0, en(1, 1))
	wantQueue(t, q, en(2, 1), en(3, 1))
}

// P16.1: with RejectNew, and with no other bit, one too many is refused.
func TestRejectNew(t *testing.T) {
	for bits := range 32 {
		q := full(t, api.Options{Bits: bits}, en(1, 0), en(2, 1))
		if bits&4 == 0 {
			wantTaken(t, q, en(3, 0), 0, en(1, 0))
			continue
		}
		for prio := range 5 {
			wantRefused(t, q, en(3, prio), 0)
		}
		wantTake(t, q, en(2, 1))
		wantTaken(t, q, en(3, 3), 0)
		wantRefused(t, q, en(2, 1), 0)
		wantQueue(t, q, en(3, 3), en(1, 0))
	}
	if 4 != api.RejectNew {
		t.Error("RejectNew is not the bit of package api")
	}
}

// P16.1: those whose time is over count until they are asked for by Gone.
func TestGoneOnesCount(t *testing.T) {
	over := func(id, prio int) api.Entry { return api.Entry{ID: id, Prio: prio, TTL: 1, Until: 1} }
	q := full(t, api.Options{}, over(1, 3), over(2, 0), over(3, 0))
	wantTaken(t, q, en(4, 0), 100, over(2, 0))
	r := full(t, api.Options{Bits: api.RejectNew}, over(1, 3), over(2, 0))
	wantRefused(t, r, en(4, 0), 100)
	wantGone(t, r, 100, over(1, 3), over(2, 0))
	wantTaken(t, r, en(4, 0), 100)
	wantTake(t, q, over(1, 3))
}

// P16.1: what comes back is there as it is, whatever the queue's options are, but with
// Again true.
func TestBackAsItIs(t *testing.T) {
	for _, o := range []api.Options{{}, {MaxLen: 1, Prio: 1, TTL: 3}, {Bits: api.RejectNew}, {Prio: -1, TTL: -1}} {
		q := queue.New(o)
		var want []api.Entry
		for prio := 3; prio >= 0; prio-- {
			for _, again := range []bool{false, true} {
				e := api.Entry{ID: 9*prio + len(want), Body: 2, Size: -3, Exchange: "e", Key: "k.\xff", Prio: prio, TTL: 4 - prio, Until: 5 * prio, Again: again, Hops: 6}
				wantBack(t, q, e, true)
				want = append(want, back(e))
			}
			wantQueue(t, q, want...)
		}
		wantPurge(t, q, want...)
	}
}

// P16.1: what comes back is refused where its ID is there, or its Prio isn't from 0 to
// MaxPrio.
func TestBackOfWhatCantBe(t *testing.T) {
	for _, o := range []api.Options{{}, {Prio: 9}, {MaxLen: 1}} {
		q := queue.New(o)
		for _, there := range []bool{false, true} {
			if there {
				wantTaken(t, q, en(1, 0), 0)
				wantBack(t, q, en(2, 3), true)
			}
			for _, prio := range edges {
				if prio < 0 || prio > 3 {
					wantBack(t, q, en(9, prio), false)
				}
				if there {
					wantBack(t, q, en(1, prio), false)
					wantBack(t, q, api.Entry{ID: 2, Prio: prio, Key: "second"}, false)
				}
			}
		}
		wantQueue(t, q, back(en(2, 3)), en(1, 0))
	}
}

// P16.2: however many come back, they are there, also with RejectNew.
func TestManyComeBack(t *testing.T) {
	for _, bits := range []int{0, api.RejectNew} {
		for _, limit := range []int{1, 2, 59, 60, 0} {
			q := queue.New(api.Options{MaxLen: limit, Bits: bits})
			var want []api.Entry
			for id := range 200 {
				wantBack(t, q, en(id, 0), true)
				want = append(want, back(en(id, 0)))
				wantQueue(t, q, want...)
			}
		}
	}
}

// P16.1, P16.2: with more than the limit there, as many go for a new one as have to, the
// worst first; with RejectNew none goes, until there are fewer.
func TestPutBehindMany(t *testing.T) {
	for limit := 1; limit <= 5; limit++ {
		for more := range 30 {
			o := api.Options{MaxLen: limit, Prio: 3}
			q := queue.New(o)
			o.Bits = api.RejectNew
			r := queue.New(o)
			var there []api.Entry // the worst first
			for n := range limit + more {
				e := back(en(n, n*4/(limit+more)))
				wantBack(t, q, e, true)
				wantBack(t, r, e, true)
				there = append(there, e)
			}
			comes := en(100, 0)
			wantTaken(t, q, comes, 0, there[:more+1]...)
			wantQueue(t, q, sorted(append(slices.Clone(there[more+1:]), comes))...)
			for r.Len() >= limit {
				wantRefused(t, r, comes, 0)
				r.Take()
			}
			wantTaken(t, r, comes, 0)
		}
	}
}

// P16.1: what is refused at a queue with more than its limit changes nothing.
func TestRefusedBehindMany(t *testing.T) {
	q := queue.New(api.Options{MaxLen: 2, Prio: 9})
	for id := range 6 {
		wantBack(t, q, en(id, id%4), true)
	}
	for id := range 6 {
		wantRefused(t, q, en(id, 0), 0)
		wantRefused(t, q, en(id, 3), 0)
	}
	wantRefused(t, q, en(6, 4), 0)
	wantTaken(t, q, en(6, 3), 0, back(en(0, 0)), back(en(4, 0)), back(en(1, 1)), back(en(5, 1)), back(en(2, 2)))
	wantQueue(t, q, back(en(3, 3)), en(6, 3))
}

// P16.1: Take answers the first one, one after the other; one that comes back is where it
// was.
func TestTake(t *testing.T) {
	q := queue.New(api.Options{Prio: 3})
	var all []api.Entry
	for n := range 40 {
		e := en(n*7%40, n%4)
		wantTaken(t, q, e, 0)
		all = append(all, e)
	}
	all = sorted(all)
	for n, e := range all {
		wantTake(t, q, e)
		wantQueue(t, q, all[n+1:]...)
		wantBack(t, q, e, true)
		wantTake(t, q, back(e))
		wantQueue(t, q, all[n+1:]...)
	}
	wantEmpty(t, q)
}

// P16.1: Gone takes those whose time is over, at it, not ahead of it, of all Prios, in
// order; the others stay.
func TestGone(t *testing.T) {
	until := func(e api.Entry, ttl, until int) api.Entry {
		e.TTL, e.Until = ttl, until
		return e
	}
	q := queue.New(api.Options{Prio: 3})
	for _, e := range []api.Entry{until(en(1, 0), 10, 0), until(en(2, 3), 11, 0), en(3, 3), until(en(4, 1), 9, 0), until(en(5, 3), 10, 0)} {
		wantTaken(t, q, e, 100)
	}
	wantBack(t, q, until(en(6, 2), 0, 5), true)
	wantBack(t, q, until(en(7, 2), 5, -5), true)
	for _, now := range []int{math.MinInt, -5, 0, 4} {
		wantGone(t, q, now)
	}
	wantGone(t, q, 5, back(until(en(6, 2), 0, 5)))
	wantGone(t, q, 108)
	wantGone(t, q, 110, until(en(5, 3), 10, 110), until(en(4, 1), 9, 109), until(en(1, 0), 10, 110))
	wantGone(t, q, 110)
	wantQueue(t, q, until(en(2, 3), 11, 111), en(3, 3), back(until(en(7, 2), 5, -5)))
	wantGone(t, q, math.MaxInt, until(en(2, 3), 11, 111))
	wantQueue(t, q, en(3, 3), back(until(en(7, 2), 5, -5)))
}

// P16.1: all go by Purge, in order, and it goes on as a new one does.
func TestPurge(t *testing.T) {
	for many := range 100 {
		q := queue.New(api.Options{Prio: 3, MaxLen: 50})
		var all []api.Entry
		for n := range many {
			e := api.Entry{ID: n * 31 % 101, Prio: n % 4, Until: n % 3}
			if n < 30 {
				e.Until = 0
				wantTaken(t, q, e, 0)
			} else {
				e = back(e)
				wantBack(t, q, e, true)
			}
			all = append(all, e)
		}
		wantPurge(t, q, sorted(all)...)
		wantEmpty(t, q)
		for n := range 50 {
			wantTaken(t, q, en(n, 0), 0)
		}
		wantTaken(t, q, en(50, 0), 0, en(0, 0))
	}
}

// P16.1: all numbers are IDs.
func TestEveryID(t *testing.T) {
	q := queue.New(api.Options{MaxLen: 2 * len(edges)})
	for n := range edges {
		wantTaken(t, q, en(edges[n*5%len(edges)], 0), n)
	}
	for _, id := range edges {
		wantRefused(t, q, en(id, 0), 0)
		wantBack(t, q, en(id, 0), false)
	}
	for _, id := range edges {
		wantTake(t, q, en(id, 0))
	}
	wantEmpty(t, q)
}

// P16.1: no time is too early or too late.
func TestEveryTime(t *testing.T) {
	for _, now := range edges {
		for _, ttl := range edges {
			for _, of := range edges {
				q := queue.New(api.Options{TTL: ttl})
				wantTaken(t, q, api.Entry{ID: 1, TTL: of}, now)
				is := q.All()
				if is[0].Until <= 0 {
					is = nil // never gone
				}
				wantGone(t, q, now)
				wantGone(t, q, math.MaxInt, is...)
				if q.Len() != 1-len(is) {
					t.Fatalf("%d are left, %d went", q.Len(), len(is))
				}
			}
		}
	}
}

// P16.1: what is answered is new each time, its spare room too, and no answer is touched
// by what comes later.
func TestAnswersAreNew(t *testing.T) {
	scratch := func(list []api.Entry) {
		list = list[:cap(list)]
		for i := range list {
			list[i] = en(-1, -1)
		}
	}
	for many := 2; many < 40; many++ {
		q := queue.New(api.Options{MaxLen: 1, Prio: 3})
		var there []api.Entry
		for n := range many {
			e := back(api.Entry{ID: n, Prio: n * 4 / many, Until: 5 + n%2})
			wantBack(t, q, e, true)
			there = append(there, e)
		}
		scratch(q.All())
		wantQueue(t, q, sorted(there)...)
		gone := q.Gone(5)
		keptGone := slices.Clone(gone)
		all := q.All()
		keptAll := slices.Clone(all)
		_, went := q.Put(en(many, 0), 0)
		keptWent := slices.Clone(went)
		wantBack(t, q, en(many+1, 0), true)
		purged := q.Purge()
		wantEmpty(t, q)
		if !slices.Equal(gone, keptGone) || !slices.Equal(all, keptAll) || !slices.Equal(went, keptWent) {
			t.Fatalf("an answer was touched: %s, %s, %s", ids(gone), ids(all), ids(went))
		}
		if len(gone)+len(went) != many || len(all) != len(went) || len(purged) != 2 {
			t.Fatalf("%d are gone, %d went, %d were purged of %d", len(gone), len(went), len(purged), many)
		}
		scratch(gone)
		scratch(all)
		if !slices.Equal(went, keptWent) || ids(purged) != "0/"+strconv.Itoa(many)+" 0/"+strconv.Itoa(many+1) {
			t.Fatalf("an answer was touched: %s, %s", ids(went), ids(purged))
		}
	}
}

// P16.1: one queue doesn't know of another one.
func TestQueuesAreApart(t *testing.T) {
	a, b := queue.New(api.Options{MaxLen: 2}), queue.New(api.Options{Bits: api.RejectNew, Prio: 1})
	wantTaken(t, a, en(1, 1), 0)
	wantTaken(t, a, en(2, 1), 0)
	wantEmpty(t, b)
	wantTaken(t, b, en(1, 1), 0)
	wantTaken(t, a, en(3, 0), 0, en(1, 0))
	wantQueue(t, b, en(1, 1))
	wantPurge(t, a, en(2, 0), en(3, 0))
	wantQueue(t, b, en(1, 1))
}
