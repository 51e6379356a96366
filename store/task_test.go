package store_test

import (
	"fmt"
	"math"
	"slices"
	"strings"
	"testing"

	"mailcoach/api"
	"mailcoach/store"
)

// P19.2: each publish has an ID one above the last one, from 1 on, also where it goes
// nowhere, and whatever ID it came with.
func TestIDs(t *testing.T) {
	s := storeOf(t, open, "q", "r")
	fanout(t, s, "f", "q", "r")
	want := ""
	for i, exchange := range []string{"", "none", "f", "", "", "none", "f"} {
		e := api.Entry{ID: edges[i], Exchange: exchange, Key: []string{"q", "none"}[i%2]}
		s.Publish(e)
		if exchange == "f" || exchange == "" && i%2 == 0 {
			want += fmt.Sprintf(" %d/0", i+1)
		}
		wantReady(t, s, "q", strings.TrimSpace(want))
	}
	wantReady(t, s, "r", "3/0 7/0")
	// One that comes back with a greater ID isn't the last one.
	s.Back(1, api.Entry{ID: 100})
	wantPublish(t, s, api.Entry{Key: "r"}, true, 1)
	wantReady(t, s, "r", "3/0 7/0 8/0")
}

// P19.2: a message goes to each queue that it is routed to, once, and to no other one; how
// many these are is told.
func TestRoutes(t *testing.T) {
	s := storeOf(t, open, "a", "b", "c")
	fanout(t, s, "f", "c", "a", "c")
	wantErr(t, s.Exchange("t", "topic", 0), api.OK)
	for _, b := range []api.Binding{{Exchange: "t", Queue: "b", Key: "x.*"}, {Exchange: "t", Queue: "b", Key: "#"}, {Exchange: "t", Queue: "a", Key: "*.y"}} {
		wantErr(t, s.Bind(b, 0), api.OK)
	}
	for i, c := range []struct{ exchange, key, to string }{
		{"", "a", "a"}, {"", "c", "c"}, {"", "none", ""}, {"", "", ""}, {"", "f", ""}, {"none", "a", ""}, {"a", "a", ""},
		{"f", "", "ac"}, {"f", "b", "ac"}, {"t", "", "b"}, {"t", "x.y", "ab"}, {"t", "z.y", "ab"}, {"t", "x.z", "b"}, {"t", strings.Repeat("k.", 99), "b"},
	} {
		h := publish(t, s, api.Entry{Exchange: c.exchange, Key: c.key, Size: 4}, true, len(c.to))
		wantCount(t, s, h, len(c.to))
		for _, name := range []string{"a", "b", "c"} {
			all := slices.DeleteFunc(s.Ready(name), func(e api.Entry) bool { return e.ID != i+1 })
			if !strings.Contains(c.to, name) {
				if len(all) > 0 {
					t.Fatalf("%v: it is in %s", c, name)
				}
				continue
			}
			if want := (api.Entry{ID: i + 1, Body: h, Size: 4, Exchange: c.exchange, Key: c.key}); !slices.Equal(all, []api.Entry{want}) {
				t.Fatalf("%v: in %s: %v; want %v", c, name, all, want)
			}
		}
	}
}

// P19.2: a message is in a queue as that has it at Now: its Prio, how long; all else as it
// came.
func TestAsQueuesHaveIt(t *testing.T) {
	s := storeOf(t, open, "q")
	wantNew(t, s, "p", api.Options{Prio: 2, TTL: 30}, 0)
	fanout(t, s, "f", "q", "p")
	for range 5 {
		s.Tick()
	}
	e := api.Entry{ID: 7, Size: 3, Exchange: "f", Key: "k", Prio: 3, TTL: 40, Until: 3, Again: true, Hops: 2}
	wantPublish(t, s, e, true, 2)
	e.ID, e.Prio, e.Until = 1, 0, 45
	if got := s.Ready("q"); !slices.Equal(got, []api.Entry{e}) {
		t.Fatalf("%v; want %v", got, e)
	}
	e.Prio, e.Until = 2, 35
	if got := s.Ready("p"); !slices.Equal(got, []api.Entry{e}) {
		t.Fatalf("%v; want %v", got, e)
	}
	for _, n := range edges {
		wantPublish(t, s, api.Entry{Exchange: "f", Size: n, Prio: n, TTL: n, Until: n, Hops: n, Body: min(n, 0)}, true, 2)
	}
	if n := len(s.Ready("p")); n != 1+len(edges) || s.Slab().Live() != 0 {
		t.Fatalf("%d", n)
	}
}

// P19.2: each queue that took it holds a body once; no body, and one that isn't there, is
// held by none.
func TestHolds(t *testing.T) {
	s := storeOf(t, open, "a", "b", "c")
	wantNew(t, s, "r", api.Options{MaxLen: 1, Bits: api.RejectNew}, 0)
	fanout(t, s, "f", "a", "r", "c", "b")
	h := body(t, s, "")
	wantPublish(t, s, api.Entry{Exchange: "f", Body: h}, true, 4)
	wantCount(t, s, h, 5)
	wantPublish(t, s, api.Entry{Exchange: "f", Body: h}, false, 4) // r is full
	wantCount(t, s, h, 8)
	wantPublish(t, s, api.Entry{Key: "r", Body: h}, false, 1)
	wantCount(t, s, h, 8)
	wantReady(t, s, "r", "1/0")
	wantReady(t, s, "b", "1/0 2/0")
	for _, n := range append(edges, h+1) {
		if n == h {
			continue
		}
		wantPublish(t, s, api.Entry{Exchange: "f", Body: n}, false, 4)
		s.Done(api.Entry{Body: n})
		wantCount(t, s, h, 8)
		if s.Slab().Live() != 1 || s.Ready("a")[len(s.Ready("a"))-1].Body != n {
			t.Fatalf("body %d", n)
		}
	}
}

// P19.2: a queue that has that ID yet doesn't take it, though others do.
func TestRefused(t *testing.T) {
	s := storeOf(t, open, "a", "b")
	fanout(t, s, "f", "a", "b")
	s.Back(1, api.Entry{ID: 2, Key: "back"})
	h := publish(t, s, api.Entry{Exchange: "f"}, true, 2)
	h2 := publish(t, s, api.Entry{Exchange: "f"}, false, 2)
	wantCount(t, s, h, 2)
	wantCount(t, s, h2, 1)
	wantReady(t, s, "a", "1/0 2/0")
	wantReady(t, s, "b", "1/0 2/0")
	if e := s.Ready("a")[1]; e.Key != "back" || e.Body != 0 {
		t.Fatalf("%v", e)
	}
}

// P19.2: Done lets a body go once, if there is one.
func TestDone(t *testing.T) {
	s := storeOf(t, open, "q")
	h := body(t, s, "b")
	s.Slab().Hold(h)
	for _, n := range edges {
		if n != h {
			s.Done(api.Entry{ID: h, Body: n, Size: 1})
		}
	}
	for want := 2; want > 0; want-- {
		wantCount(t, s, h, want)
		s.Done(api.Entry{Body: h, Hops: 9})
	}
	wantCount(t, s, h, 0)
	s.Done(api.Entry{Body: h})
	if s.Slab().Live() != 0 || s.Slab().Free() != 5000 {
		t.Fatal("it isn't free")
	}
}

// P19.2: Back puts an entry back as it was, with Again, however many there are; where it
// can't be it is done.
func TestBack(t *testing.T) {
	s := storeOf(t, api.Options{MaxLen: 1, Prio: 3, Dead: "f", TTL: 50}, "p", "q")
	fanout(t, s, "f", "p")
	var took []api.Entry
	for i := range 3 {
		h := publish(t, s, api.Entry{Key: "q", Prio: i, TTL: 9, Hops: i}, true, 1)
		s.Tick()
		took = append(took, wantTake(t, s, "q", 0, i+1, 2, 0))
		wantCount(t, s, h, 1)
	}
	for _, e := range took {
		s.Back(2, e)
		wantCount(t, s, e.Body, 1)
	}
	slices.Reverse(took)
	for i := range took {
		took[i].Again = true
	}
	if got := s.Ready("q"); !slices.Equal(got, took) {
		t.Fatalf("%v; want %v", got, took)
	}
	wantReady(t, s, "p", "") // nothing went for them
	for _, c := range []struct {
		queue int
		e     api.Entry
	}{
		{2, api.Entry{ID: 2}}, {2, api.Entry{ID: 9, Prio: -1}}, {2, api.Entry{ID: 9, Prio: 4}},
		{0, api.Entry{ID: 9}}, {3, api.Entry{ID: 9}}, {-1, api.Entry{ID: 9}}, {1<<32 + 2, api.Entry{ID: 9}}, {math.MaxInt, api.Entry{ID: 9}},
	} {
		c.e.Body = body(t, s, "b")
		s.Back(c.queue, c.e)
		wantCount(t, s, c.e.Body, 0)
		if got := s.Ready("q"); !slices.Equal(got, took) || len(s.Ready("p")) != 0 {
			t.Fatalf("%v: %v; want %v", c, got, took)
		}
	}
	s.Back(1, api.Entry{ID: -5, Until: 1}) // of another queue, of any ID
	wantReady(t, s, "p", "-5/0")
}

// deadly is a store with a queue from, of which d, an exchange, has what is dead; d leads
// to the queue to.
func deadly(t *testing.T, o api.Options) *store.Store {
	t.Helper()
	s := store.New(5000)
	wantNew(t, s, "from", o, 0)
	wantNew(t, s, "to", api.Options{Prio: 3}, 0)
	fanout(t, s, "d", "to")
	return s
}

// P19.2: what is dead goes on by the exchange and the key that its queue has for it, as a
// new message; its own hold is let go.
func TestDead(t *testing.T) {
	e := api.Entry{ID: 7, Size: 4, Exchange: "x", Key: "to", Prio: 2, TTL: 9, Until: 8, Again: true}
	for _, c := range []struct {
		dead, deadKey string
		hops          int
		want          api.Entry
	}{
		{"d", "", 0, api.Entry{Exchange: "d", Key: "to", Hops: 1}},
		{"d", "", 1, api.Entry{Exchange: "d", Key: "to", Hops: 2}},
		{"d", "", 2, api.Entry{Exchange: "d", Key: "to", Hops: 3}},
		{"d", "", 3, api.Entry{}}, {"d", "", 4, api.Entry{}}, {"d", "", math.MaxInt, api.Entry{}},
		{"d", "", -1, api.Entry{Exchange: "d", Key: "to", Hops: 0}},
		{"d", "", math.MinInt, api.Entry{Exchange: "d", Key: "to", Hops: math.MinInt + 1}},
		{"d", "k", 0, api.Entry{Exchange: "d", Key: "k", Hops: 1}},
		{"", "to", 0, api.Entry{Key: "to", Hops: 1}},
		{"", "to", 3, api.Entry{}}, {"", "none", 0, api.Entry{}}, {"", "", 0, api.Entry{}},
		{"none", "", 0, api.Entry{}}, {"none", "to", 0, api.Entry{}}, {"to", "", 0, api.Entry{}},
	} {
		s := deadly(t, api.Options{Dead: c.dead, DeadKey: c.deadKey, TTL: 3, Prio: 1})
		for range 4 {
			s.Tick()
		}
		x := e
		x.Hops, x.Body = c.hops, body(t, s, "body")
		s.Dead(1, x)
		if c.want == (api.Entry{}) {
			if len(s.Ready("to")) != 0 || s.Slab().Live() != 0 {
				t.Fatalf("%v: %v", c, s.Ready("to"))
			}
			continue
		}
		c.want.ID, c.want.Body, c.want.Size, c.want.Prio = 1, x.Body, 4, 2
		if got := s.Ready("to"); !slices.Equal(got, []api.Entry{c.want}) {
			t.Fatalf("%v: %v; want %v", c, got, c.want)
		}
		wantCount(t, s, x.Body, 1)
	}
}

// P19.2: what isn't of a queue that is there is done, if it is dead.
func TestDeadOfNoQueue(t *testing.T) {
	for _, number := range edges {
		s := deadly(t, api.Options{Dead: "d"})
		h := body(t, s, "body")
		s.Dead(number, api.Entry{Body: h})
		want := 0
		if number == 1 {
			want = 1
		}
		wantCount(t, s, h, want)
		if n := len(s.Ready("to")); n != want || s.Slab().Live() != want {
			t.Fatalf("%d: %d", number, n)
		}
	}
	s := deadly(t, api.Options{Dead: "d"})
	s.Delete("from", 0, 0)
	wantNew(t, s, "from", api.Options{Dead: "d"}, 0)
	s.Dead(1, api.Entry{})
	wantReady(t, s, "to", "")
	s.Dead(3, api.Entry{})
	wantReady(t, s, "to", "1/1")
	// An exchange that went, one that comes later.
	wantErr(t, s.ExDelete("d", 0), api.OK)
	s.Dead(3, api.Entry{})
	wantReady(t, s, "to", "1/1")
	fanout(t, s, "d", "to", "from")
	s.Dead(3, api.Entry{})
	wantReady(t, s, "to", "1/1 2/1")
	wantReady(t, s, "from", "2/1")
}

// P19.2: what goes from a full queue is dead, the worst first; the new one is there. What
// is refused isn't dead.
func TestDeadOfFull(t *testing.T) {
	s := deadly(t, api.Options{Dead: "d", MaxLen: 3, Prio: 1})
	for i := range 3 {
		publish(t, s, api.Entry{Key: "from", Prio: 1 - i%2}, true, 1)
	}
	wantReady(t, s, "from", "1/0 3/0 2/0")
	for range 3 {
		publish(t, s, api.Entry{Key: "from"}, true, 1)
	}
	wantReady(t, s, "from", "1/0 3/0 8/0")
	wantReady(t, s, "to", "5/1 7/1 9/1") // they were 2, 4, 6
	// Many that came back go at once: 9 of Prio 0, in order, each a new one.
	for i := range 9 {
		s.Back(1, api.Entry{ID: 20 + i})
	}
	if n, e := s.Purge("to", 0); n != 3 || e != api.OK {
		t.Fatal(n, e)
	}
	publish(t, s, api.Entry{Key: "from", Size: 1}, true, 1)
	wantReady(t, s, "from", "1/0 3/0 10/0")
	wantReady(t, s, "to", "11/1 12/1 13/1 14/1 15/1 16/1 17/1 18/1 19/1 20/1")
	if n := s.Slab().Live(); n != 4 {
		t.Fatalf("%d live", n)
	}
	s = deadly(t, api.Options{Dead: "d", MaxLen: 1, Bits: api.RejectNew})
	publish(t, s, api.Entry{Key: "from"}, true, 1)
	publish(t, s, api.Entry{Key: "from"}, false, 1)
	wantReady(t, s, "to", "")
	wantReady(t, s, "from", "1/0")
}

// P19.2: whatever comes of what is dead is there ahead of what is behind it: the messages
// of one queue ahead of the next queue, those of the first dead one ahead of the second.
func TestDeadInOrder(t *testing.T) {
	s := store.New(5000)
	o := api.Options{MaxLen: 1, DeadKey: "log"}
	wantNew(t, s, "a", api.Options{MaxLen: 1, DeadKey: "b"}, 0)
	wantNew(t, s, "b", o, 0)
	wantNew(t, s, "c", o, 0)
	wantNew(t, s, "log", open, 0)
	fanout(t, s, "f", "a", "c", "b")
	h := publish(t, s, api.Entry{Exchange: "f", Key: "x"}, true, 3)
	h2 := publish(t, s, api.Entry{Exchange: "f", Key: "y"}, true, 3)
	// 2 drives 1 out of a, which is 3 in b, and drives out 1 there: 4 in log; then 1 out of
	// c: 5 in log; then 3 out of b: 6 in log.
	wantReady(t, s, "a", "2/0")
	wantReady(t, s, "b", "2/0")
	wantReady(t, s, "c", "2/0")
	wantReady(t, s, "log", "4/1 5/1 6/2")
	wantCount(t, s, h, 3)
	wantCount(t, s, h2, 3)
	for _, e := range s.Ready("log") {
		if e.Key != "log" || e.Exchange != "" || e.Body != h {
			t.Fatalf("%v", e)
		}
	}
	s.Back(2, api.Entry{ID: 90})
	s.Back(2, api.Entry{ID: 91})
	fill(t, s, "a", 1)
	// 7: 2 is 8 in b, for which 2, 90, 91 go: 9, 10, 11 in log.
	wantReady(t, s, "b", "8/1")
	wantReady(t, s, "log", "4/1 5/1 6/2 9/1 10/1 11/1")
}

// P19.2: a queue that is its own dead one drives out what comes; at last it is done.
func TestDeadRound(t *testing.T) {
	s := storeOf(t, api.Options{MaxLen: 1, DeadKey: "l"}, "l")
	h := publish(t, s, api.Entry{Key: "l"}, true, 1)
	h2 := publish(t, s, api.Entry{Key: "l"}, true, 1)
	// 1 is 3, so 2 is 4, 3 is 5, 4 is 6, 5 is 7, 6 is 8, and 7 is done.
	wantReady(t, s, "l", "8/3")
	wantCount(t, s, h, 0)
	wantCount(t, s, h2, 1)
	publish(t, s, api.Entry{Key: "l"}, true, 1)
	wantReady(t, s, "l", "9/0")
	if s.Slab().Live() != 1 {
		t.Fatalf("%d live", s.Slab().Live())
	}
	// Into a queue that refuses it goes no further.
	s = storeOf(t, api.Options{MaxLen: 1, DeadKey: "r"}, "q")
	wantNew(t, s, "r", api.Options{MaxLen: 1, Bits: api.RejectNew}, 0)
	fill(t, s, "r", 1)
	h = publish(t, s, api.Entry{Key: "q"}, true, 1)
	publish(t, s, api.Entry{Key: "q"}, true, 1) // true: q took it
	wantCount(t, s, h, 0)
	wantReady(t, s, "r", "1/0")
}

// P19.3: Take takes the first entry, of a queue that is there, for whom it isn't Locked.
func TestTake(t *testing.T) {
	s := storeOf(t, api.Options{Prio: 3}, "p", "q")
	var all []int
	for i := range 4 {
		all = append(all, publish(t, s, api.Entry{Key: "q", Prio: i / 2}, true, 1))
	}
	was := s.Ready("q")
	for i, id := range []int{3, 4, 1, 2} {
		if e := wantTake(t, s, "q", -9, id, 2, 3-i); e != was[i] {
			t.Fatalf("%v; want %v", e, was[i])
		}
		wantReady(t, s, "q", ids(was[i+1:]))
		wantCount(t, s, all[id-1], 1) // who took it holds it
	}
	wantNoTake(t, s, "q", 0, api.ErrNone)
	wantNoTake(t, s, "p", 0, api.ErrNone)
	wantNoTake(t, s, "none", 0, api.NotFound)
	wantNoTake(t, s, "", 0, api.NotFound)
}

// P19.3: what Consume answers, in the order of its errors.
func TestConsume(t *testing.T) {
	s := storeOf(t, open, "q", "one", "p")
	wantNew(t, s, "x", own, 2)
	wantErr(t, s.Consume("x", sole(2, 1, "a")), api.OK)
	whole := api.Guest{Conn: 3, Chan: 2, Tag: "w", Most: 7, NoAck: true}
	for _, c := range []struct {
		name string
		g    api.Guest
		want api.Errno
	}{
		{"none", gu(0, 1, "a"), api.NotFound}, {"", sole(0, 1, "a"), api.NotFound},
		{"x", gu(1, 1, "a"), api.Locked}, {"x", sole(1, 1, "a"), api.Locked}, {"x", gu(2, 1, "a"), api.Refused}, {"x", gu(2, 1, "b"), api.Refused},
		{"q", gu(0, 1, "a"), api.OK}, {"q", gu(0, 1, "a"), api.Failed}, {"q", sole(0, 1, "a"), api.Refused}, {"q", sole(0, 1, "b"), api.Refused},
		{"q", gu(0, 2, "a"), api.OK}, {"q", gu(1, 1, "a"), api.OK}, {"q", whole, api.OK}, {"q", gu(3, 2, "w"), api.Failed},
		{"p", gu(0, 1, "a"), api.OK}, // of another queue, too
		{"one", sole(0, 1, "s"), api.OK}, {"one", sole(0, 1, "s"), api.Refused}, {"one", gu(0, 1, "s"), api.Refused}, {"one", gu(4, 4, "t"), api.Refused},
	} {
		if c.want != api.OK {
			wantAsIs(t, s, c.want, func() api.Errno { return s.Consume(c.name, c.g) })
			continue
		}
		was := s.Guests(c.name)
		wantErr(t, s.Consume(c.name, c.g), api.OK)
		wantGuests(t, s, c.name, append(was, c.g)...)
	}
	wantGuests(t, s, "q", gu(0, 1, "a"), gu(0, 2, "a"), gu(1, 1, "a"), whole)
	s.Cancel(0, 1, "s")
	wantErr(t, s.Consume("one", gu(4, 4, "t")), api.OK)
	wantErr(t, s.Consume("one", gu(4, 4, "u")), api.OK)
}

// P19.3: Cancel lets a consumer go, of whatever queue, and no other one.
func TestCancel(t *testing.T) {
	s := storeOf(t, api.Options{Bits: api.AutoDelete}, "q", "r", "s")
	wantNew(t, s, "x", own, 2)
	wantErr(t, s.Exchange("auto", "fanout", api.AutoDelete), api.OK)
	wantErr(t, s.Bind(api.Binding{Exchange: "auto", Queue: "q"}, 0), api.OK)
	for _, name := range []string{"q", "r"} {
		wantErr(t, s.Consume(name, gu(2, 1, "a")), api.OK)
		wantErr(t, s.Consume(name, gu(1, 1, "a")), api.OK)
		publish(t, s, api.Entry{Key: name}, true, 1)
	}
	wantErr(t, s.Consume("x", gu(2, 1, "x")), api.OK)
	was := told(s)
	for _, g := range []api.Guest{gu(0, 1, "a"), gu(2, 2, "a"), gu(2, 1, "b"), gu(2, 1, ""), gu(-2, -1, "a"), gu(2+1<<32, 1, "a"), gu(1, 1, "x")} {
		s.Cancel(g.Conn, g.Chan, g.Tag)
		if got := told(s); got != was {
			t.Fatalf("%v: %s; want %s", g, got, was)
		}
	}
	s.Cancel(2, 1, "x")
	wantGuests(t, s, "x")
	wantErr(t, s.Consume("r", gu(2, 1, "b")), api.OK)
	s.Cancel(2, 1, "a")
	wantGuests(t, s, "q", gu(1, 1, "a"))
	wantGuests(t, s, "r", gu(1, 1, "a"), gu(2, 1, "b"))
	s.Cancel(1, 1, "a")
	wantNames(t, s, "r", "s", "x") // q's last one went; s never had any, x hasn't AutoDelete
	wantGuests(t, s, "r", gu(2, 1, "b"))
	if s.Slab().Live() != 1 || s.Has("auto") {
		t.Fatalf("%d live", s.Slab().Live())
	}
	s.Cancel(1, 1, "a")
	s.Cancel(2, 1, "b")
	wantNames(t, s, "s", "x")
	if s.Slab().Live() != 0 {
		t.Fatalf("%d live", s.Slab().Live())
	}
}

// P19.3: what isn't a consumer's going by Cancel or Leave doesn't delete.
func TestAutoDelete(t *testing.T) {
	for bits := range 8 {
		s := store.New(5000)
		wantNew(t, s, "q", api.Options{Bits: bits}, 0)
		wantNew(t, s, "p", open, 0)
		wantErr(t, s.Consume("q", gu(0, 1, "a")), api.OK)
		publish(t, s, api.Entry{Key: "q"}, true, 1)
		s.Purge("q", 0)
		s.Leave(1)
		s.Tick()
		wantNames(t, s, "q", "p")
		publish(t, s, api.Entry{Key: "q"}, true, 1)
		s.Cancel(0, 1, "a")
		if bits&api.AutoDelete != 0 {
			wantNames(t, s, "p")
			continue
		}
		wantNames(t, s, "q", "p")
		wantReady(t, s, "q", "2/0")
	}
}

// P19.3: with a connection its consumers go, of each queue; what that leaves unused and
// has AutoDelete is deleted, and then what is its alone.
func TestLeave(t *testing.T) {
	both := api.Options{Bits: api.Exclusive | api.AutoDelete}
	for _, conn := range edges {
		other := 7
		s := store.New(5000)
		wantNew(t, s, "plain", open, conn)
		wantNew(t, s, "auto", api.Options{Bits: api.AutoDelete}, other)
		wantNew(t, s, "own", own, conn)
		wantNew(t, s, "shared", api.Options{Bits: api.AutoDelete}, conn)
		wantNew(t, s, "unused", api.Options{Bits: api.AutoDelete}, conn)
		wantNew(t, s, "theirs", own, other)
		wantNew(t, s, "both", both, conn)
		wantErr(t, s.Consume("shared", gu(other, 1, "a")), api.OK)
		wantErr(t, s.Consume("theirs", gu(other, 1, "a")), api.OK)
		for _, name := range []string{"plain", "auto", "shared", "both"} {
			wantErr(t, s.Consume(name, gu(conn, 1, "a")), api.OK)
			wantErr(t, s.Consume(name, gu(conn, 2, "b")), api.OK)
			wantErr(t, s.Consume(name, gu(conn, -2, "")), api.OK)
		}
		fanout(t, s, "f", "plain", "auto")
		for _, name := range []string{"own", "both"} {
			wantErr(t, s.Bind(api.Binding{Exchange: "f", Queue: name}, conn), api.OK)
		}
		h := publish(t, s, api.Entry{Exchange: "f"}, true, 4)
		wantCount(t, s, h, 4)
		for range 2 {
			s.Leave(conn)
			wantNames(t, s, "plain", "shared", "unused", "theirs")
			wantGuests(t, s, "plain")
			wantGuests(t, s, "shared", gu(other, 1, "a"))
			wantGuests(t, s, "theirs", gu(other, 1, "a"))
			wantCount(t, s, h, 1)
		}
		wantPublish(t, s, api.Entry{Exchange: "f"}, true, 1)
		s.Leave(other)
		wantNames(t, s, "plain", "unused")
	}
}

// P19.3: behind those that went with their connection the turn is at whom it was, or at
// the next one that is left.
func TestTurnBehindLeave(t *testing.T) {
	for turn := range 6 {
		for set := range 1 << 6 {
			s := storeOf(t, open, "q")
			var all, left []api.Guest
			for i := range 6 {
				g := gu(set>>i&1, 1, fmt.Sprint(i))
				wantErr(t, s.Consume("q", g), api.OK)
				all = append(all, g)
			}
			fill(t, s, "q", turn+12)
			for range turn {
				s.Pick("q", []bool{true, true, true, true, true, true})
			}
			for _, g := range append(slices.Clone(all[turn:]), all[:turn]...) {
				if g.Conn == 0 {
					left = append(left, g)
				}
			}
			s.Leave(1)
			for i := range 2 * len(left) {
				wantPick(t, s, "q", []bool{true, true, true, true, true, true}, left[i%len(left)], turn+i+1, 1)
			}
		}
	}
}

// P19.3: Pick hands the first entry to the consumer whose turn it is, of those with spare;
// where nobody is picked the turn stays.
func TestPick(t *testing.T) {
	s := storeOf(t, api.Options{Prio: 3}, "p", "q")
	all := []api.Guest{gu(0, 1, "a"), {Conn: 1, Chan: 2, Tag: "b", Most: 5, NoAck: true}, gu(2, 1, "c")}
	every := []bool{true, true, true}
	fill(t, s, "q", 1)
	wantNoPick(t, s, "q", every) // no consumer
	for _, g := range all {
		wantErr(t, s.Consume("q", g), api.OK)
	}
	wantErr(t, s.Consume("p", all[0]), api.OK)
	wantPick(t, s, "q", every, all[0], 1, 2)
	for range 2 {
		wantNoPick(t, s, "q", every) // no entry
		wantNoPick(t, s, "p", every)
		wantNoPick(t, s, "none", every)
		wantNoPick(t, s, "", every)
	}
	h := body(t, s, "b")
	for i, prio := range []int{0, 3, 1} {
		wantPublish(t, s, api.Entry{Key: "q", Prio: prio, Body: h, Size: i}, true, 1)
	}
	s.Done(api.Entry{Body: h})
	was := s.Ready("q")
	wantNoPick(t, s, "q", nil)
	wantNoPick(t, s, "q", []bool{false, false, false, true})
	for i, c := range []struct {
		spare []bool
		at    int
	}{{every, 1}, {[]bool{true, true}, 0}, {[]bool{true, false, true, true}, 2}} {
		if e := wantPick(t, s, "q", c.spare, all[c.at], was[i].ID, 2); e != was[i] {
			t.Fatalf("%v; want %v", e, was[i])
		}
		wantCount(t, s, h, 3) // who has it holds it
	}
	wantReady(t, s, "q", "")
	// Of one that is Exclusive, too: it doesn't ask who it is.
	wantNew(t, s, "x", own, 5)
	wantErr(t, s.Consume("x", gu(5, 1, "x")), api.OK)
	fill(t, s, "x", 1)
	wantPick(t, s, "x", every, gu(5, 1, "x"), 5, 3)
}

// P19.3: Tick lets the time go on by one; what is gone then is dead, at that time, and what
// isn't stays.
func TestTick(t *testing.T) {
	s := deadly(t, api.Options{Dead: "d", Prio: 1, TTL: 5})
	for i, e := range []api.Entry{{}, {TTL: 3}, {TTL: 9}, {TTL: 3, Prio: 1}, {TTL: 1, Hops: 3}} {
		e.Key = "from"
		if h := publish(t, s, e, true, 1); h != i+1 {
			t.Fatalf("handle %d", h)
		}
	}
	for i, c := range []struct {
		from, to string
		live     int
	}{
		{"4/0 1/0 2/0 3/0", "", 4}, // 5 had too many Hops
		{"4/0 1/0 2/0 3/0", "", 4},
		{"1/0 3/0", "6/1 7/1", 4}, // 4 ahead of 2, as they were
		{"1/0 3/0", "6/1 7/1", 4},
		{"", "6/1 7/1 8/1 9/1", 4},
	} {
		s.Tick()
		if s.Now() != i+1 {
			t.Fatalf("Now: %d; want %d", s.Now(), i+1)
		}
		wantReady(t, s, "from", c.from)
		wantReady(t, s, "to", c.to)
		if n := s.Slab().Live(); n != c.live {
			t.Fatalf("at %d: %d live", i+1, n)
		}
	}
	for range 100 {
		s.Tick()
	}
	wantReady(t, s, "to", "6/1 7/1 8/1 9/1") // for ever
}

// P19.3: queue by queue, in the order in which they were declared: what comes from an
// earlier one into a later one has its time there, and drives out what is there.
func TestTickInOrder(t *testing.T) {
	for _, names := range [][]string{{"a", "b"}, {"b", "a"}} {
		s := store.New(5000)
		for _, name := range names {
			wantNew(t, s, name, api.Options{TTL: 1, MaxLen: 1, DeadKey: map[string]string{"a": "b", "b": "log"}[name]}, 0)
		}
		wantNew(t, s, "log", open, 0)
		fill(t, s, "a", 1)
		fill(t, s, "b", 1)
		s.Tick()
		wantReady(t, s, "a", "")
		if names[0] == "a" { // 1 is 3 in b, and drives out 2, which is 4
			wantReady(t, s, "b", "3/1")
			wantReady(t, s, "log", "4/1")
		} else { // 2 is 3 in log, and 1 is 4 in b
			wantReady(t, s, "b", "4/1")
			wantReady(t, s, "log", "3/1")
		}
		s.Tick()
		wantReady(t, s, "b", "")
		if got := s.Ready("log"); len(got) != 2 || got[1].Hops != 2 {
			t.Fatalf("%v", got)
		}
	}
}

// P19.3: Has is exchange's.
func TestHas(t *testing.T) {
	s := storeOf(t, open, "q")
	for _, name := range []string{"q", "e", " ", "\x00"} {
		if s.Has(name) || !s.Has("") {
			t.Fatalf("%q", name)
		}
	}
	wantErr(t, s.Exchange("e", "direct", 0), api.OK)
	if !s.Has("e") || s.Has("E") {
		t.Fatal("e")
	}
	wantErr(t, s.ExDelete("e", 0), api.OK)
	if s.Has("e") {
		t.Fatal("e went")
	}
}
