package store_test

import (
	"fmt"
	"math"
	"slices"
	"strings"
	"testing"

	"mailcoach/api"
	"mailcoach/store"
)

// edges are ints at which something may turn.
var edges = []int{math.MinInt, -1 << 32, -256, -2, -1, 0, 1, 2, 3, 4, 8, 9, 255, 256, 1 << 32, math.MaxInt}

// open are options of a queue that is for every connection.
var open = api.Options{}

// own are options of a queue that is for one connection alone.
var own = api.Options{Bits: api.Exclusive}

// storeOf is a store with queues of those names, with those options, of connection 0.
func storeOf(t *testing.T, o api.Options, names ...string) *store.Store {
	t.Helper()
	s := store.New(5000)
	for _, name := range names {
		wantNew(t, s, name, o, 0)
	}
	return s
}

// body is a new body, held once.
func body(t *testing.T, s *store.Store, b string) int {
	t.Helper()
	h, e := s.Slab().Put(b)
	if e != api.OK {
		t.Fatalf("Put(%q): %v", b, e)
	}
	return h
}

// publish publishes a message with a new body, which only queues hold then; it answers
// the handle.
func publish(t *testing.T, s *store.Store, e api.Entry, ok bool, routed int) int {
	t.Helper()
	e.Body = body(t, s, "body")
	wantPublish(t, s, e, ok, routed)
	s.Done(e)
	return e.Body
}

// fill publishes so many messages without a body to a queue that takes them all.
func fill(t *testing.T, s *store.Store, name string, n int) {
	t.Helper()
	for range n {
		wantPublish(t, s, api.Entry{Key: name}, true, 1)
	}
}

func fanout(t *testing.T, s *store.Store, name string, queues ...string) {
	t.Helper()
	wantErr(t, s.Exchange(name, "fanout", 0), api.OK)
	for _, queue := range queues {
		wantErr(t, s.Bind(api.Binding{Exchange: name, Queue: queue}, 0), api.OK)
	}
}

// gu is a consumer.
func gu(conn, channel int, tag string) api.Guest {
	return api.Guest{Conn: conn, Chan: channel, Tag: tag}
}

// sole is a consumer that is to be the only one.
func sole(conn, channel int, tag string) api.Guest {
	return api.Guest{Conn: conn, Chan: channel, Tag: tag, Sole: true}
}

// told is all that a store tells of itself, with those exchanges that there are of some.
func told(s *store.Store) string {
	var b strings.Builder
	fmt.Fprint(&b, s.Now(), s.Names(), s.Slab().Free(), s.Slab().Live())
	for _, name := range s.Names() {
		fmt.Fprint(&b, " ", name, s.Ready(name), s.Guests(name))
		for _, e := range s.Ready(name) {
			fmt.Fprint(&b, "*", s.Slab().Count(e.Body))
		}
	}
	for _, name := range []string{"", "d", "e", "f", "t", "auto"} {
		fmt.Fprint(&b, s.Has(name))
	}
	return b.String()
}

// ids tells entries shortly: the ID, how often it was dead.
func ids(all []api.Entry) string {
	var words []string
	for _, e := range all {
		words = append(words, fmt.Sprintf("%d/%d", e.ID, e.Hops))
	}
	return strings.Join(words, " ")
}

func wantErr(t *testing.T, got, want api.Errno) {
	t.Helper()
	if got != want {
		t.Fatalf("%v; want %v", got, want)
	}
}

// wantQueue is of what Queue answers.
func wantQueue(t *testing.T, s *store.Store, name string, o api.Options, conn, n, m int, want api.Errno) {
	t.Helper()
	if a, b, e := s.Queue(name, o, conn); a != n || b != m || e != want {
		t.Fatalf("Queue(%.40q, %.80v, %d): %d, %d, %v; want %d, %d, %v", name, o, conn, a, b, e, n, m, want)
	}
}

// wantNew: that queue is there now, behind all.
func wantNew(t *testing.T, s *store.Store, name string, o api.Options, conn int) {
	t.Helper()
	was := s.Names()
	wantQueue(t, s, name, o, conn, 0, 0, api.OK)
	wantNames(t, s, append(was, name)...)
}

// wantAsIs: that call answers nothing but that error, and nothing is changed.
func wantAsIs(t *testing.T, s *store.Store, want api.Errno, call func() api.Errno) {
	t.Helper()
	was := told(s)
	wantErr(t, call(), want)
	if got := told(s); got != was {
		t.Fatalf("behind error %v:\n%s\nwas\n%s", want, got, was)
	}
}

func wantNames(t *testing.T, s *store.Store, want ...string) {
	t.Helper()
	if got := s.Names(); !slices.Equal(got, want) {
		t.Fatalf("Names: %q; want %q", got, want)
	}
}

func wantPublish(t *testing.T, s *store.Store, e api.Entry, ok bool, routed int) {
	t.Helper()
	if a, b := s.Publish(e); a != ok || b != routed {
		t.Fatalf("Publish(%.120v): %v, %d; want %v, %d", e, a, b, ok, routed)
	}
}

// wantReady: those are ready there, in that order: their IDs, how often they were dead.
func wantReady(t *testing.T, s *store.Store, name, want string) {
	t.Helper()
	if got := ids(s.Ready(name)); got != want {
		t.Fatalf("%s has %s; want %s", name, got, want)
	}
}

func wantGuests(t *testing.T, s *store.Store, name string, want ...api.Guest) {
	t.Helper()
	if got := s.Guests(name); !slices.Equal(got, want) {
		t.Fatalf("Guests(%s): %v; want %v", name, got, want)
	}
}

func wantCount(t *testing.T, s *store.Store, h, want int) {
	t.Helper()
	if got := s.Slab().Count(h); got != want {
		t.Fatalf("%d is held %d times; want %d", h, got, want)
	}
}

// wantTake: the first entry goes, from the queue of that number; so many are left.
func wantTake(t *testing.T, s *store.Store, name string, conn, id, number, left int) api.Entry {
	t.Helper()
	e, n, m, errno := s.Take(name, conn)
	if e.ID != id || n != number || m != left || errno != api.OK {
		t.Fatalf("Take(%s, %d): %v, %d, %d, %v; want %d, %d, %d", name, conn, e, n, m, errno, id, number, left)
	}
	return e
}

func wantNoTake(t *testing.T, s *store.Store, name string, conn int, want api.Errno) {
	t.Helper()
	wantAsIs(t, s, want, func() api.Errno {
		e, n, m, errno := s.Take(name, conn)
		if e != (api.Entry{}) || n != 0 || m != 0 {
			t.Fatalf("Take(%s, %d): %v, %d, %d beside %v", name, conn, e, n, m, errno)
		}
		return errno
	})
}

// wantPick: that consumer is picked, with the first entry.
func wantPick(t *testing.T, s *store.Store, name string, spare []bool, g api.Guest, id, number int) api.Entry {
	t.Helper()
	x, e, n, ok := s.Pick(name, spare)
	if x != g || e.ID != id || n != number || !ok {
		t.Fatalf("Pick(%s): %v, %v, %d, %v; want %v, %d, %d", name, x, e, n, ok, g, id, number)
	}
	return e
}

func wantNoPick(t *testing.T, s *store.Store, name string, spare []bool) {
	t.Helper()
	was := told(s)
	if x, e, n, ok := s.Pick(name, spare); x != (api.Guest{}) || e != (api.Entry{}) || n != 0 || ok || told(s) != was {
		t.Fatalf("Pick(%s): %v, %v, %d, %v; want none", name, x, e, n, ok)
	}
}

// P19.1: in a new store there is nothing, nor in one that nobody made, which has no room;
// each call may be the first one.
func TestNew(t *testing.T) {
	for _, room := range append(edges, 5000, api.MaxRoom, api.MaxRoom+1) {
		if got, want := store.New(room).Slab().Free(), min(max(room, 0), api.MaxRoom); got != want {
			t.Fatalf("New(%d): %d free; want %d", room, got, want)
		}
	}
	for _, made := range []func() *store.Store{func() *store.Store { return store.New(0) }, func() *store.Store { return &store.Store{} }} {
		s := made()
		if s.Now() != 0 || len(s.Names()) != 0 || s.Slab().Free() != 0 || s.Slab().Live() != 0 || s.Slab() != s.Slab() {
			t.Fatal("it isn't new")
		}
		for _, name := range []string{"", "q", "a b"} {
			s := made()
			if len(s.Ready(name)) != 0 || len(s.Guests(name)) != 0 || s.Has(name) != (name == "") {
				t.Fatalf("there is a %q", name)
			}
			wantNoPick(t, s, name, []bool{true})
			wantNoTake(t, s, name, 0, api.NotFound)
			wantErr(t, made().Consume(name, gu(0, 1, "a")), api.NotFound)
			wantErr(t, made().Bind(api.Binding{Queue: name}, 0), api.NotFound)
			wantErr(t, made().Unbind(api.Binding{Queue: name}, 0), api.NotFound)
			wantPublish(t, made(), api.Entry{Key: name, Body: 1}, true, 0)
		}
		wantErr(t, made().Exchange("e", "topic", 0), api.OK)
		wantErr(t, made().ExDelete("e", 0), api.NotFound)
		for _, n := range edges {
			s := made()
			s.Leave(n)
			s.Cancel(n, n, "")
			s.Back(n, api.Entry{ID: n, Body: n})
			s.Dead(n, api.Entry{ID: n, Body: n})
			s.Done(api.Entry{Body: n})
			s.Tick()
			if s.Now() != 1 {
				t.Fatalf("Now: %d", s.Now())
			}
			wantNew(t, s, "q", open, n)
			fill(t, s, "q", 1)
			wantReady(t, s, "q", "1/0")
		}
	}
}

// P19.1: Exchange declares of a Kind by its name, ExDelete deletes; their errors, in order.
func TestExchange(t *testing.T) {
	s := storeOf(t, open, "q")
	for _, c := range []struct {
		name, kind string
		bits       int
		want       api.Errno
	}{
		{"", "direct", 0, api.Refused}, {"", "wrong", 0, api.Refused}, {"a b", "direct", 0, api.Failed},
		{"d", "", 0, api.Failed}, {"d", "Direct", 0, api.Failed}, {"d", "1", 0, api.Failed},
		{"d", "direct", 0, api.OK}, {"f", "fanout", 0, api.OK}, {"t", "topic", 0, api.OK}, {"auto", "topic", api.AutoDelete, api.OK},
		{"d", "direct", 0, api.OK}, {"d", "direct", api.Exclusive, api.OK}, {"d", "fanout", 0, api.Failed}, {"d", "direct", api.AutoDelete, api.Failed},
		{"auto", "topic", api.AutoDelete | 8, api.OK}, {"auto", "topic", 0, api.Failed},
		{"e4", "direct", 0, api.OK}, {"e5", "direct", 0, api.OK}, {"e6", "direct", 0, api.OK}, {"e7", "direct", 0, api.OK},
		{"e8", "direct", 0, api.Resource}, {"e8", "wrong", 0, api.Failed}, {"e7", "direct", 0, api.OK},
	} {
		was := s.Has(c.name)
		wantErr(t, s.Exchange(c.name, c.kind, c.bits), c.want)
		if got, want := s.Has(c.name), was || c.want == api.OK; got != want {
			t.Fatalf("Has(%q): %v", c.name, got)
		}
	}
	// Each of its kind: the key itself, any, by pattern.
	for i, name := range []string{"d", "f", "t"} {
		wantErr(t, s.Bind(api.Binding{Exchange: name, Queue: "q", Key: "a.*"}, 0), api.OK)
		for j, key := range []string{"a.*", "b", "a.b"} {
			want := []string{"yyy", "nyn", "nyy"}[j][i] == 'y'
			if _, n := s.Publish(api.Entry{Exchange: name, Key: key}); (n == 1) != want {
				t.Fatalf("%s by %s: %d", name, key, n)
			}
		}
	}
	wantAsIs(t, s, api.Refused, func() api.Errno { return s.ExDelete("", 0) })
	wantAsIs(t, s, api.NotFound, func() api.Errno { return s.ExDelete("none", api.IfUnused) })
	wantAsIs(t, s, api.Failed, func() api.Errno { return s.ExDelete("f", api.IfUnused) })
	wantErr(t, s.ExDelete("f", 0), api.OK)
	wantErr(t, s.ExDelete("auto", api.IfUnused), api.OK)
	if s.Has("f") || s.Has("auto") {
		t.Fatal("f, auto are there")
	}
	wantErr(t, s.Exchange("f", "fanout", 0), api.OK)
	wantPublish(t, s, api.Entry{Exchange: "f"}, true, 0)
}

// P19.1: what Queue answers, in the order of its errors.
func TestQueue(t *testing.T) {
	s := storeOf(t, open, "q")
	o := api.Options{Dead: "d", DeadKey: "k", MaxLen: 5, TTL: 9, Prio: 2, Bits: api.Exclusive | api.AutoDelete | api.RejectNew}
	wantNew(t, s, "x", o, 2)
	with := func(change func(o *api.Options)) api.Options {
		x := o
		change(&x)
		return x
	}
	wrong := api.Options{TTL: -1}
	passive := func(o api.Options) api.Options { o.Bits |= api.Passive; return o }
	for _, c := range []struct {
		name string
		o    api.Options
		conn int
		want api.Errno
	}{
		{"q", open, 0, api.OK}, {"q", open, 3, api.OK}, {"q", open, -7, api.OK}, {"q", api.Options{Bits: api.RejectNew}, 0, api.Failed},
		{"q", api.Options{Bits: api.Exclusive}, 0, api.Failed}, {"q", api.Options{TTL: 1}, 0, api.Failed}, {"q", wrong, 0, api.Failed},
		{"x", o, 2, api.OK}, {"x", o, 1, api.Locked}, {"x", o, 2 + 1<<32, api.Locked}, {"x", open, 1, api.Locked}, {"x", open, 2, api.Failed},
		{"x", wrong, 1, api.Failed}, {"x", wrong, 2, api.Failed},
		{"x", with(func(o *api.Options) { o.Dead = "e" }), 2, api.Failed}, {"x", with(func(o *api.Options) { o.DeadKey = "" }), 2, api.Failed},
		{"x", with(func(o *api.Options) { o.MaxLen-- }), 2, api.Failed}, {"x", with(func(o *api.Options) { o.TTL++ }), 2, api.Failed},
		{"x", with(func(o *api.Options) { o.Prio-- }), 2, api.Failed}, {"x", with(func(o *api.Options) { o.Bits = 5 }), 2, api.Failed},
		{"x", passive(open), 2, api.OK}, {"x", passive(wrong), 2, api.OK}, {"x", passive(open), 1, api.Locked}, {"x", passive(o), 1, api.Locked},
		{"q", passive(wrong), 5, api.OK}, {"q", api.Options{Bits: -1}, 5, api.OK}, {"q", api.Options{Bits: 24}, 5, api.OK},
		{"none", passive(open), 0, api.NotFound}, {"a b", passive(open), 0, api.NotFound}, {"", passive(wrong), 0, api.NotFound},
		{"", open, 0, api.Failed}, {"a b", open, 0, api.Failed}, {"a.b", open, 0, api.Failed}, {"ä", open, 0, api.Failed},
		{strings.Repeat("n", api.MaxName+1), open, 0, api.Failed}, {"n", api.Options{Bits: -16}, 0, api.Failed}, {"n", api.Options{Bits: 16}, 0, api.Failed},
		{"n", api.Options{Prio: api.MaxPrio + 1}, 0, api.Failed}, {"n", api.Options{MaxLen: api.MaxReady + 1}, 0, api.Failed}, {"n", api.Options{TTL: api.MaxTTL + 1}, 0, api.Failed},
		{"n", api.Options{Dead: strings.Repeat("d", api.MaxName+1)}, 0, api.Failed}, {"n", api.Options{DeadKey: strings.Repeat("k", api.MaxKey+1)}, 0, api.Failed},
	} {
		wantAsIs(t, s, c.want, func() api.Errno {
			n, m, e := s.Queue(c.name, c.o, c.conn)
			if n != 0 || m != 0 {
				t.Fatalf("%v: %d, %d", c, n, m)
			}
			return e
		})
	}
	wantNew(t, s, strings.Repeat("n", api.MaxName), api.Options{Dead: strings.Repeat("d", api.MaxName), DeadKey: strings.Repeat("k", api.MaxKey), MaxLen: api.MaxReady, TTL: api.MaxTTL, Prio: api.MaxPrio, Bits: 7}, math.MinInt)
}

// P19.1: of one that is there Queue tells how many are ready, how many consumers it has,
// Passive or not, and it stays as it is.
func TestQueueTells(t *testing.T) {
	o := api.Options{MaxLen: 4, Prio: 1}
	s := storeOf(t, o, "p", "q")
	fill(t, s, "q", 3)
	for i, tag := range []string{"a", "b"} {
		wantErr(t, s.Consume("q", gu(i, 1, tag)), api.OK)
	}
	for _, o := range []api.Options{o, {Bits: api.Passive}, {Bits: api.Passive, TTL: -1}} {
		wantQueue(t, s, "q", o, 5, 3, 2, api.OK)
		wantQueue(t, s, "p", o, 5, 0, 0, api.OK)
	}
	wantQueue(t, s, "q", api.Options{MaxLen: 1}, 5, 0, 0, api.Failed)
	wantTake(t, s, "q", 0, 1, 2, 2)
	s.Cancel(0, 1, "a")
	wantQueue(t, s, "q", o, 5, 2, 1, api.OK)
	fill(t, s, "q", 4)
	wantQueue(t, s, "q", o, 5, 4, 1, api.OK)
}

// P19.1: at most MaxQueues; one that went makes room for one more, behind all.
func TestMostQueues(t *testing.T) {
	s := storeOf(t, open, "a", "b", "c", "d", "e", "f", "g", "h")
	if api.MaxQueues != 8 {
		t.Fatal("these are 8")
	}
	for range 2 {
		wantAsIs(t, s, api.Resource, func() api.Errno { _, _, e := s.Queue("i", open, 0); return e })
		wantAsIs(t, s, api.Failed, func() api.Errno { _, _, e := s.Queue("i", api.Options{TTL: -1}, 0); return e })
		wantAsIs(t, s, api.Failed, func() api.Errno { _, _, e := s.Queue("i i", open, 0); return e })
		wantAsIs(t, s, api.NotFound, func() api.Errno { _, _, e := s.Queue("i", api.Options{Bits: api.Passive}, 0); return e })
		wantQueue(t, s, "h", open, 0, 0, 0, api.OK)
	}
	for i, name := range []string{"c", "a", "h", "e"} {
		if n, e := s.Delete(name, 0, 0); n != 0 || e != api.OK {
			t.Fatalf("Delete: %d, %v", n, e)
		}
		wantNew(t, s, fmt.Sprint("n", i), open, 0)
	}
	wantNames(t, s, "b", "d", "f", "g", "n0", "n1", "n2", "n3")
	wantNew(t, storeOf(t, open), "c", open, 0)
}

// P19.1: numbers rise from 1 on, each a new one, also of a name that was there; what isn't
// declared takes none.
func TestNumbers(t *testing.T) {
	s := storeOf(t, open, "a", "b")
	number := func(name string) int {
		fill(t, s, name, 1)
		e, n, _, errno := s.Take(name, 0)
		wantErr(t, errno, api.OK)
		s.Done(e)
		return n
	}
	if number("a") != 1 || number("b") != 2 {
		t.Fatalf("%d, %d", number("a"), number("b"))
	}
	s.Queue("c", api.Options{TTL: -1}, 0)
	s.Queue("c", api.Options{Bits: api.Passive}, 0)
	s.Queue("a", open, 0)
	s.Queue("a", own, 0)
	for i := range 20 {
		if _, e := s.Delete("a", 0, 0); e != api.OK {
			t.Fatal(e)
		}
		wantNew(t, s, "a", open, 0)
		if number("a") != 3+i || number("b") != 2 {
			t.Fatalf("%d, %d behind %d", number("a"), number("b"), i)
		}
	}
}

// P19.1, P19.3: what is Exclusive is Locked for every connection but the one that declared
// it first, in each call that names one; other queues aren't, whoever declared them.
func TestLocked(t *testing.T) {
	b := api.Binding{Exchange: "e", Queue: "x", Key: "k"}
	for _, conn := range edges {
		for _, other := range edges {
			if conn == other {
				continue
			}
			s := storeOf(t, open, "q")
			fanout(t, s, "e", "q")
			wantNew(t, s, "x", own, conn)
			wantErr(t, s.Bind(b, conn), api.OK)
			wantErr(t, s.Consume("x", sole(conn, 1, "a")), api.OK)
			publish(t, s, api.Entry{Key: "x"}, true, 1)
			for _, call := range []func() api.Errno{
				func() api.Errno { _, _, e := s.Queue("x", own, other); return e },
				func() api.Errno { _, _, e := s.Queue("x", api.Options{Bits: 9}, other); return e },
				func() api.Errno { return s.Bind(b, other) },
				func() api.Errno { return s.Bind(api.Binding{Exchange: "none", Queue: "x"}, other) },
				func() api.Errno { return s.Unbind(b, other) },
				func() api.Errno { return s.Unbind(api.Binding{Queue: "x"}, other) },
				func() api.Errno { n, e := s.Purge("x", other); return e + api.Errno(n) },
				func() api.Errno { n, e := s.Delete("x", 0, other); return e + api.Errno(n) },
				func() api.Errno { n, e := s.Delete("x", 3, other); return e + api.Errno(n) },
				func() api.Errno { return s.Consume("x", gu(other, 1, "b")) },
			} {
				wantAsIs(t, s, api.Locked, call)
			}
			wantNoTake(t, s, "x", other, api.Locked)
			wantQueue(t, s, "q", open, other, 0, 0, api.OK)
			wantErr(t, s.Consume("q", gu(other, 1, "b")), api.OK)
			wantErr(t, s.Unbind(api.Binding{Exchange: "e", Queue: "q"}, other), api.OK)
			wantNoTake(t, s, "q", other, api.ErrNone)
			wantQueue(t, s, "x", own, conn, 1, 1, api.OK)
			wantTake(t, s, "x", conn, 1, 2, 0)
			if n, e := s.Delete("x", 0, conn); n != 0 || e != api.OK {
				t.Fatal(n, e)
			}
			wantNew(t, s, "x", own, other) // another queue
			wantQueue(t, s, "x", own, conn, 0, 0, api.Locked)
		}
	}
}

// P19.1: Bind and Unbind ask for the queue first, then they are exchange's.
func TestBind(t *testing.T) {
	s := storeOf(t, open, "q", "r")
	wantErr(t, s.Exchange("d", "direct", 0), api.OK)
	wantErr(t, s.Exchange("auto", "direct", api.AutoDelete), api.OK)
	long := strings.Repeat("k", api.MaxKey+1)
	for _, c := range []struct {
		exchange, queue, key string
		bind, unbind         api.Errno
	}{
		{"d", "none", "k", api.NotFound, api.NotFound}, {"", "none", "k", api.NotFound, api.NotFound}, {"none", "", long, api.NotFound, api.NotFound},
		{"", "q", long, api.Refused, api.Refused}, {"none", "q", long, api.NotFound, api.NotFound}, {"d", "q", long, api.Failed, api.OK},
	} {
		b := api.Binding{Exchange: c.exchange, Queue: c.queue, Key: c.key}
		wantAsIs(t, s, c.bind, func() api.Errno { return s.Bind(b, 0) })
		wantAsIs(t, s, c.unbind, func() api.Errno { return s.Unbind(b, 0) })
	}
	b := api.Binding{Exchange: "d", Queue: "q", Key: long[1:]}
	for range 2 {
		wantErr(t, s.Bind(b, 7), api.OK)
	}
	wantPublish(t, s, api.Entry{Exchange: "d", Key: b.Key}, true, 1)
	wantErr(t, s.Unbind(api.Binding{Exchange: "d", Queue: "r", Key: b.Key}, 8), api.OK)
	wantPublish(t, s, api.Entry{Exchange: "d", Key: b.Key}, true, 1)
	for range 2 {
		wantErr(t, s.Unbind(b, 8), api.OK)
	}
	wantPublish(t, s, api.Entry{Exchange: "d", Key: b.Key}, true, 0)
	wantReady(t, s, "q", "1/0 2/0")
	for i := range api.MaxBinds {
		wantErr(t, s.Bind(api.Binding{Exchange: "d", Queue: "q", Key: fmt.Sprint(i)}, 0), api.OK)
	}
	wantAsIs(t, s, api.Resource, func() api.Errno { return s.Bind(b, 0) })
	s.Unbind(api.Binding{Exchange: "d", Queue: "q", Key: "7"}, 0)
	b.Exchange = "auto"
	wantErr(t, s.Bind(b, 0), api.OK)
	wantErr(t, s.Unbind(b, 0), api.OK)
	if s.Has("auto") || !s.Has("d") {
		t.Fatal("auto goes with its last binding, d stays")
	}
}

// P19.1: Purge lets all that is ready be done, and nothing else go.
func TestPurge(t *testing.T) {
	s := storeOf(t, api.Options{Dead: "", DeadKey: "r", MaxLen: 60}, "q", "r")
	fanout(t, s, "f", "q", "r")
	wantErr(t, s.Consume("q", gu(1, 1, "a")), api.OK)
	first := publish(t, s, api.Entry{Exchange: "f"}, true, 2)
	publish(t, s, api.Entry{Key: "q"}, true, 1)
	held := publish(t, s, api.Entry{Key: "q"}, true, 1)
	s.Slab().Hold(held)
	wantPublish(t, s, api.Entry{Key: "q"}, true, 1)
	for _, want := range []int{4, 0} {
		if n, e := s.Purge("q", 9); n != want || e != api.OK {
			t.Fatalf("Purge: %d, %v", n, e)
		}
		wantReady(t, s, "q", "")
		wantReady(t, s, "r", "1/0") // none of them was dead
		wantCount(t, s, first, 1)
		wantCount(t, s, held, 1)
		if s.Slab().Live() != 2 {
			t.Fatalf("%d live", s.Slab().Live())
		}
	}
	wantGuests(t, s, "q", gu(1, 1, "a"))
	wantPublish(t, s, api.Entry{Exchange: "f"}, true, 2)
	for _, name := range []string{"none", "", "q q"} {
		wantAsIs(t, s, api.NotFound, func() api.Errno { n, e := s.Purge(name, 0); return e + api.Errno(n) })
	}
}

// P19.1: Delete holds to its conditions, which other bits aren't.
func TestDeleteConditions(t *testing.T) {
	for bits := range 16 {
		for set := range 9 {
			s := storeOf(t, open, "p", "q")
			consumers, entries := set%3, set/3
			for i := range consumers {
				wantErr(t, s.Consume("q", gu(i, 1, "a")), api.OK)
			}
			fill(t, s, "q", entries)
			if bits&1 == 1 && consumers > 0 || bits&2 == 2 && entries > 0 {
				wantAsIs(t, s, api.Failed, func() api.Errno { n, e := s.Delete("q", bits, 3); return e + api.Errno(n) })
				continue
			}
			if n, e := s.Delete("q", bits, 3); n != entries || e != api.OK {
				t.Fatalf("Delete of %d by %d: %d, %v", set, bits, n, e)
			}
			wantNames(t, s, "p")
		}
	}
	s := storeOf(t, open, "q")
	for _, bits := range edges {
		wantAsIs(t, s, api.NotFound, func() api.Errno { n, e := s.Delete("none", bits, 0); return e + api.Errno(n) })
	}
}

// P19.1: with a queue its bindings, consumers, entries go; exchanges that go with their
// last binding, too. One of that name that comes is a new one.
func TestDelete(t *testing.T) {
	s := storeOf(t, api.Options{DeadKey: "r", MaxLen: 60}, "p", "q", "r")
	fanout(t, s, "f", "q", "p")
	wantErr(t, s.Exchange("auto", "fanout", api.AutoDelete), api.OK)
	wantErr(t, s.Bind(api.Binding{Exchange: "auto", Queue: "q"}, 0), api.OK)
	for conn := range 3 {
		wantErr(t, s.Consume("q", gu(conn, 1, "a")), api.OK)
	}
	wantErr(t, s.Consume("p", gu(0, 1, "a")), api.OK)
	both := publish(t, s, api.Entry{Exchange: "f"}, true, 2)
	one := publish(t, s, api.Entry{Exchange: "auto"}, true, 1)
	taken := wantTake(t, s, "q", 0, 1, 2, 1)
	if n, e := s.Delete("q", 0, 5); n != 1 || e != api.OK || s.Has("auto") || !s.Has("f") {
		t.Fatalf("Delete: %d, %v", n, e)
	}
	wantNames(t, s, "p", "r")
	wantCount(t, s, both, 2) // in p, and taken
	wantCount(t, s, one, 0)
	wantReady(t, s, "r", "")
	wantReady(t, s, "q", "")
	wantGuests(t, s, "q")
	wantGuests(t, s, "p", gu(0, 1, "a"))
	wantPublish(t, s, api.Entry{Exchange: "f"}, true, 1)
	wantPublish(t, s, api.Entry{Key: "q"}, true, 0)
	wantNew(t, s, "q", open, 0)
	wantGuests(t, s, "q")
	wantPublish(t, s, api.Entry{Exchange: "f"}, true, 1)
	s.Back(2, taken) // its number isn't there any more
	wantCount(t, s, both, 1)
	wantReady(t, s, "q", "")
	fill(t, s, "q", 1)
	wantTake(t, s, "q", 0, 6, 4, 0)
}

// P19.1: Names are in the order in which they were declared, whoever goes; what is answered
// is new memory.
func TestAnswersAreNewMemory(t *testing.T) {
	s := storeOf(t, open, "c", "a", "b")
	for _, tag := range []string{"x", "y"} {
		wantErr(t, s.Consume("a", gu(1, 1, tag)), api.OK)
	}
	fill(t, s, "a", 2)
	was := told(s)
	names, ready, guests := s.Names(), s.Ready("a"), s.Guests("a")
	for range 2 {
		slices.Reverse(names)
		names[0], ready[0], guests[0] = "z", api.Entry{ID: 9}, gu(9, 9, "z")
		names, ready, guests = append(names, "n")[:3], append(ready, ready...)[:2], append(guests, guests...)[:2]
		if got := told(s); got != was {
			t.Fatalf("%s; want %s", got, was)
		}
		names, ready, guests = s.Names()[:3:3], s.Ready("a"), s.Guests("a")
	}
	spare := []bool{false, true, true}
	wantPick(t, s, "a", spare[:2], gu(1, 1, "y"), 1, 2)
	if !slices.Equal(spare, []bool{false, true, true}) {
		t.Fatalf("%v", spare)
	}
}
