package exchange_test

import (
	"math"
	"slices"
	"strconv"
	"strings"
	"testing"

	"mailcoach/api"
	"mailcoach/exchange"
)

// bind is a binding of a queue to an exchange by a key.
func bind(exchange, queue, key string) api.Binding {
	return api.Binding{Exchange: exchange, Queue: queue, Key: key}
}

// kindsOf are exchanges d, f, t of each kind, a, b, c of each kind that go with their
// last binding.
func kindsOf(t *testing.T) *exchange.Exchanges {
	t.Helper()
	x := exchange.New()
	for i, name := range []string{"d", "f", "t"} {
		wantDeclare(t, x, name, i+1, 0, api.OK)
	}
	for i, name := range []string{"a", "b", "c"} {
		wantDeclare(t, x, name, i+1, api.AutoDelete, api.OK)
	}
	return x
}

func bindAll(t *testing.T, x *exchange.Exchanges, all ...api.Binding) {
	t.Helper()
	for _, b := range all {
		wantBind(t, x, b, api.OK)
	}
}

func wantDeclare(t *testing.T, x *exchange.Exchanges, name string, kind, bits int, want api.Errno) {
	t.Helper()
	if e := x.Declare(name, kind, bits); e != want {
		t.Fatalf("Declare(%.80q, %d, %d): %v; want %v", name, kind, bits, e, want)
	}
}

func wantDelete(t *testing.T, x *exchange.Exchanges, name string, bits int, want api.Errno) {
	t.Helper()
	if e := x.Delete(name, bits); e != want {
		t.Fatalf("Delete(%.80q, %d): %v; want %v", name, bits, e, want)
	}
}

func wantBind(t *testing.T, x *exchange.Exchanges, b api.Binding, want api.Errno) {
	t.Helper()
	if e := x.Bind(b); e != want {
		t.Fatalf("Bind(%.80q): %v; want %v", b, e, want)
	}
}

func wantUnbind(t *testing.T, x *exchange.Exchanges, b api.Binding, want api.Errno) {
	t.Helper()
	if e := x.Unbind(b); e != want {
		t.Fatalf("Unbind(%.80q): %v; want %v", b, e, want)
	}
}

// wantRoute is of an exchange that is there.
func wantRoute(t *testing.T, x *exchange.Exchanges, name, key string, want ...string) {
	t.Helper()
	if got, ok := x.Route(name, key); !ok || !slices.Equal(got, want) {
		t.Fatalf("Route(%.80q, %.80q): %.200q, %v; want %.200q", name, key, got, ok, want)
	}
}

func wantNoRoute(t *testing.T, x *exchange.Exchanges, name, key string) {
	t.Helper()
	if got, ok := x.Route(name, key); ok || len(got) != 0 {
		t.Fatalf("Route(%.80q, %.80q): %.200q, %v; want none, false", name, key, got, ok)
	}
}

// wantNames is also what Has tells.
func wantNames(t *testing.T, x *exchange.Exchanges, want ...string) {
	t.Helper()
	if got := x.Names(); !slices.Equal(got, want) {
		t.Fatalf("Names: %q; want %q", got, want)
	}
	for _, name := range want {
		wantHas(t, x, name, true)
	}
	wantHas(t, x, "", true)
}

func wantHas(t *testing.T, x *exchange.Exchanges, name string, want bool) {
	t.Helper()
	if got := x.Has(name); got != want {
		t.Fatalf("Has(%.80q): %v; want %v", name, got, want)
	}
}

func wantOf(t *testing.T, x *exchange.Exchanges, name string, want ...api.Binding) {
	t.Helper()
	if got := x.Of(name); !slices.Equal(got, want) {
		t.Fatalf("Of(%.80q): %.200q; want %.200q", name, got, want)
	}
}

// P13.1: Kind: of three words; nothing else is one.
func TestKind(t *testing.T) {
	for s, want := range map[string]int{
		"direct": api.Direct, "fanout": api.Fanout, "topic": api.Topic,
		"": 0, "Direct": 0, "FANOUT": 0, "topics": 0, "topi": 0, " topic": 0, "topic ": 0, "direct fanout topic": 0, "headers": 0, "1": 0, "\x00": 0, strings.Repeat("direct", 1<<20): 0,
	} {
		if got := exchange.Kind(s); got != want {
			t.Errorf("Kind(%.80q): %d; want %d", s, got, want)
		}
	}
}

// P13.1, P13.2: of new exchanges, and of those that nobody made, "" alone is there.
func TestNew(t *testing.T) {
	var zero exchange.Exchanges
	for _, x := range []*exchange.Exchanges{exchange.New(), &zero} {
		for range 2 {
			wantNames(t, x)
			wantOf(t, x, "")
			wantOf(t, x, "e")
			wantRoute(t, x, "", "q", "q")
			wantNoRoute(t, x, "e", "q")
			wantHas(t, x, "e", false)
			wantDelete(t, x, "", 0, api.Refused)
			wantDelete(t, x, "e", 0, api.NotFound)
			wantBind(t, x, bind("", "q", "k"), api.Refused)
			wantBind(t, x, bind("e", "q", "k"), api.NotFound)
			wantUnbind(t, x, bind("", "q", "k"), api.Refused)
			wantUnbind(t, x, bind("e", "q", "k"), api.NotFound)
			x.DropQueue("")
			x.DropQueue("q")
		}
		wantDeclare(t, x, "e", api.Topic, 0, api.OK)
		wantBind(t, x, bind("e", "q", "#"), api.OK)
		wantRoute(t, x, "e", "k", "q")
	}
}

// P13.1: Declare: "" is refused ahead of all; a wrong name and a wrong kind fail; what is
// there is there again only as it is, of the bits AutoDelete alone counting.
func TestDeclare(t *testing.T) {
	x := exchange.New()
	twelve := strings.Repeat("n", api.MaxName)
	for _, c := range []struct {
		name       string
		kind, bits int
		want       api.Errno
	}{
		{"", api.Direct, 0, api.Refused}, {"", 0, 0, api.Refused}, {"", 9, -1, api.Refused},
		{"a b", api.Direct, 0, api.Failed}, {"a.b", api.Fanout, 0, api.Failed}, {"é", api.Topic, 0, api.Failed}, {"#", api.Topic, 0, api.Failed}, {"\x00", api.Direct, 0, api.Failed}, {twelve + "n", api.Direct, 0, api.Failed}, {strings.Repeat("n", 1<<20), api.Direct, 0, api.Failed},
		{"e", 0, 0, api.Failed}, {"e", -1, 0, api.Failed}, {"e", 4, 0, api.Failed}, {"e", math.MaxInt, 0, api.Failed}, {"e", math.MinInt, 0, api.Failed}, {"e", 1 << 32, 0, api.Failed}, {"e", 1<<32 + 1, 0, api.Failed}, {"e", 257, 0, api.Failed},
		{twelve, api.Direct, 0, api.OK}, {"E-1", api.Fanout, 0, api.OK}, {"e", api.Topic, 0, api.OK}, {"auto", api.Direct, api.AutoDelete, api.OK},
		// What is there.
		{"e", api.Topic, 0, api.OK}, {"e", api.Direct, 0, api.Failed}, {"e", api.Fanout, 0, api.Failed}, {"e", 0, 0, api.Failed}, {"e", 4, 0, api.Failed}, {"e", api.Topic, api.AutoDelete, api.Failed},
		{"auto", api.Direct, api.AutoDelete, api.OK}, {"auto", api.Direct, 0, api.Failed}, {"auto", api.Fanout, api.AutoDelete, api.Failed}, {"auto", api.Topic, 0, api.Failed},
		// Bits that don't count.
		{"e", api.Topic, api.Exclusive | api.RejectNew | api.Passive, api.OK}, {"e", api.Topic, ^api.AutoDelete, api.OK}, {"e", api.Topic, math.MinInt, api.OK}, {"e", api.Topic, -1, api.Failed}, {"e", api.Topic, math.MaxInt, api.Failed},
		{"auto", api.Direct, -1, api.OK}, {"auto", api.Direct, math.MaxInt, api.OK}, {"auto", api.Direct, 3, api.OK}, {"auto", api.Direct, ^api.AutoDelete, api.Failed},
	} {
		wantDeclare(t, x, c.name, c.kind, c.bits, c.want)
	}
	wantNames(t, x, twelve, "E-1", "e", "auto")
	for _, none := range []string{"E", "e-1", twelve + "n", twelve[1:], "a b", "#"} {
		wantHas(t, x, none, false)
	}
}

// P13.1: what Declare answers to what is there leaves it as it was.
func TestDeclareAgain(t *testing.T) {
	x := kindsOf(t)
	bindAll(t, x, bind("d", "q", "#"), bind("c", "q", "#"))
	for kind := -1; kind < 6; kind++ {
		for bits := range 16 {
			x.Declare("d", kind, bits)
			x.Declare("c", kind, bits)
		}
	}
	wantNames(t, x, "d", "f", "t", "a", "b", "c")
	wantRoute(t, x, "d", "k")
	wantRoute(t, x, "d", "#", "q")
	wantRoute(t, x, "c", "k", "q")
	x.DropQueue("q")
	wantNames(t, x, "d", "f", "t", "a", "b")
}

// P13.1: MaxExch are there, "" not counted; one more is refused, if nothing else is
// wrong; what is there is still there again; what went makes room.
func TestDeclareMany(t *testing.T) {
	for _, end := range []func(x *exchange.Exchanges){
		func(x *exchange.Exchanges) { x.Delete("e3", 0) },
		func(x *exchange.Exchanges) { x.Unbind(bind("e3", "q", "k")) },
		func(x *exchange.Exchanges) { x.DropQueue("q") },
	} {
		x := exchange.New()
		var names []string
		for i := range api.MaxExch {
			names = append(names, "e"+strconv.Itoa(i))
			wantDeclare(t, x, names[i], api.Topic, api.AutoDelete, api.OK)
		}
		wantBind(t, x, bind("e3", "q", "k"), api.OK)
		for range 3 {
			wantDeclare(t, x, "more", api.Topic, 0, api.Resource)
			wantDeclare(t, x, "more", 0, 0, api.Failed)
			wantDeclare(t, x, "mo re", api.Topic, 0, api.Failed)
			wantDeclare(t, x, "", api.Topic, 0, api.Refused)
			wantDeclare(t, x, "e7", api.Topic, api.AutoDelete, api.OK)
			wantDeclare(t, x, "e7", api.Direct, api.AutoDelete, api.Failed)
			wantDeclare(t, x, "e7", api.Topic, 0, api.Failed)
			wantNames(t, x, names...)
			wantHas(t, x, "more", false)
		}
		end(x)
		wantHas(t, x, "e3", false)
		wantDeclare(t, x, "more", api.Direct, 0, api.OK)
		wantDeclare(t, x, "e3", api.Topic, api.AutoDelete, api.Resource)
		wantNames(t, x, append(slices.Delete(names, 3, 4), "more")...)
	}
}

// P13.1: Delete: "" is refused; of what isn't there NotFound; with IfUnused, of the bits
// alone, it fails while there are bindings.
func TestDelete(t *testing.T) {
	for _, name := range []string{"d", "f", "t", "a", "b", "c"} {
		x := kindsOf(t)
		bindAll(t, x, bind("d", "q", "k"), bind("f", "q", "k"), bind("t", "q", "k"), bind("a", "q", "k"), bind("b", "q", "k"), bind("c", "q", "k"))
		for _, bits := range []int{0, api.IfUnused, api.IfEmpty, -1} {
			wantDelete(t, x, "", bits, api.Refused)
			wantDelete(t, x, "none", bits, api.NotFound)
			wantDelete(t, x, "D", bits, api.NotFound)
			wantDelete(t, x, "q", bits, api.NotFound)
			wantDelete(t, x, strings.Repeat("n", 1<<20), bits, api.NotFound)
		}
		for _, bits := range []int{api.IfUnused, api.IfUnused | api.IfEmpty, -1, math.MaxInt} {
			wantDelete(t, x, name, bits, api.Failed)
			wantRoute(t, x, name, "k", "q")
		}
		wantNames(t, x, "d", "f", "t", "a", "b", "c")
		wantDelete(t, x, name, ^api.IfUnused, api.OK)
		wantDelete(t, x, name, 0, api.NotFound)
		wantHas(t, x, name, false)
		wantOf(t, x, name)
		wantNoRoute(t, x, name, "k")
		left := slices.DeleteFunc([]string{"d", "f", "t", "a", "b", "c"}, func(s string) bool { return s == name })
		wantNames(t, x, left...)
		for _, other := range left {
			wantRoute(t, x, other, "k", "q")
		}
		// Nothing of it is left for a new one of that name, of whatever kind.
		wantDeclare(t, x, name, api.Topic, 0, api.OK)
		wantNames(t, x, append(left, name)...)
		wantOf(t, x, name)
		wantRoute(t, x, name, "k")
		wantDelete(t, x, name, api.IfUnused, api.OK)
		wantNames(t, x, left...)
	}
}

// P13.1: with IfUnused it goes once no binding of its own is left, whatever others have.
func TestDeleteUnused(t *testing.T) {
	x := kindsOf(t)
	bindAll(t, x, bind("d", "q", "k"), bind("t", "t", "k"), bind("f", "q", "d"))
	wantDelete(t, x, "d", api.IfUnused, api.Failed)
	wantUnbind(t, x, bind("d", "q", "none"), api.OK)
	wantDelete(t, x, "d", api.IfUnused, api.Failed)
	wantUnbind(t, x, bind("d", "q", "k"), api.OK)
	wantDelete(t, x, "d", api.IfUnused, api.OK)
	wantDelete(t, x, "t", api.IfUnused, api.Failed)
	x.DropQueue("t")
	wantDelete(t, x, "t", api.IfUnused, api.OK)
	wantDelete(t, x, "c", api.IfUnused, api.OK)
	wantNames(t, x, "f", "a", "b")
	wantRoute(t, x, "f", "", "q")
}

// P13.1: Bind: Refused, NotFound, Failed, in that order; a key of MaxKey bytes will do;
// queues may have any name.
func TestBind(t *testing.T) {
	x := kindsOf(t)
	long := strings.Repeat("k", api.MaxKey+1)
	for _, c := range []struct {
		b    api.Binding
		want api.Errno
	}{
		{api.Binding{}, api.Refused}, {bind("", "q", "k"), api.Refused}, {bind("", "q", long), api.Refused},
		{bind("none", "q", "k"), api.NotFound}, {bind("none", "q", long), api.NotFound}, {bind("D", "q", "k"), api.NotFound}, {bind("q", "d", "k"), api.NotFound}, {bind("a b", "q", "k"), api.NotFound},
		{bind("d", "q", long), api.Failed}, {bind("f", "q", long), api.Failed}, {bind("t", "q", long), api.Failed}, {bind("c", "", long), api.Failed}, {bind("t", "q", strings.Repeat("#.", 1<<20)), api.Failed}, {bind("t", "q", strings.Repeat("é", 21)), api.Failed},
		{bind("d", "q", long[1:]), api.OK}, {bind("f", "q", long[1:]), api.OK}, {bind("t", "q", long[1:]), api.OK}, {bind("d", "q", ""), api.OK}, {bind("d", "", "\x00\xff"), api.OK}, {bind("d", long, "k"), api.OK}, {bind("t", "a b", "#"), api.OK},
	} {
		wantBind(t, x, c.b, c.want)
	}
	wantOf(t, x, "")
	wantOf(t, x, "d", bind("d", "q", long[1:]), bind("d", "q", ""), bind("d", "", "\x00\xff"), bind("d", long, "k"))
	wantOf(t, x, "f", bind("f", "q", long[1:]))
	wantOf(t, x, "t", bind("t", "q", long[1:]), bind("t", "a b", "#"))
	wantOf(t, x, "c")
	wantRoute(t, x, "d", "k", long)
	wantRoute(t, x, "d", "\x00\xff", "")
	wantRoute(t, x, "t", long[1:], "q", "a b")
}

// P13.1: what is bound already is bound once, where it was.
func TestBindTwice(t *testing.T) {
	for _, name := range []string{"d", "f", "t"} {
		x := kindsOf(t)
		for range 3 {
			bindAll(t, x, bind(name, "q", "k"), bind(name, "r", "k"))
		}
		wantOf(t, x, name, bind(name, "q", "k"), bind(name, "r", "k"))
		wantRoute(t, x, name, "k", "q", "r")
		wantUnbind(t, x, bind(name, "q", "k"), api.OK)
		wantOf(t, x, name, bind(name, "r", "k"))
		wantRoute(t, x, name, "k", "r")
		bindAll(t, x, bind(name, "q", "k"))
		wantRoute(t, x, name, "k", "r", "q")
	}
}

// P13.1: MaxBinds are there, of all exchanges together; one more is refused, if nothing
// else is wrong; however one goes, there is room again.
func TestBindMany(t *testing.T) {
	long := strings.Repeat("k", api.MaxKey+1)
	for _, end := range []struct {
		gone int
		do   func(x *exchange.Exchanges)
	}{
		{0, func(x *exchange.Exchanges) { x.Unbind(bind("d", "q", "more")) }},
		{1, func(x *exchange.Exchanges) { x.Unbind(bind("t", "q", "k32")) }},
		{10, func(x *exchange.Exchanges) { x.DropQueue("r") }},
		{20, func(x *exchange.Exchanges) { x.Delete("d", 0) }},
	} {
		x := kindsOf(t)
		for i := range api.MaxBinds {
			queue := "q"
			if i%4 == 1 {
				queue = "r"
			}
			wantBind(t, x, bind([]string{"d", "t"}[i/20], queue, "k"+strconv.Itoa(i)), api.OK)
		}
		for range 3 {
			wantBind(t, x, bind("d", "q", "more"), api.Resource)
			wantBind(t, x, bind("t", "q", "#"), api.Resource)
			wantBind(t, x, bind("c", "q", "k"), api.Resource)
			wantBind(t, x, bind("d", "q", "k0"), api.OK)
			wantBind(t, x, bind("t", "q", "k39"), api.OK)
			wantBind(t, x, bind("", "q", "k"), api.Refused)
			wantBind(t, x, bind("none", "q", "k"), api.NotFound)
			wantBind(t, x, bind("d", "q", long), api.Failed)
			wantRoute(t, x, "d", "more")
			wantRoute(t, x, "t", "more")
			wantRoute(t, x, "t", "k39", "q")
			wantOf(t, x, "c")
		}
		end.do(x)
		for i := range end.gone {
			wantBind(t, x, bind("t", "q", "new"+strconv.Itoa(i)), api.OK)
		}
		wantBind(t, x, bind("t", "q", "more"), api.Resource)
	}
}

// P13.1: Unbind: Refused, NotFound; else that binding isn't there, the others are.
func TestUnbind(t *testing.T) {
	long := strings.Repeat("k", api.MaxKey+1)
	for _, name := range []string{"d", "f", "t", "a", "b", "c"} {
		all := []api.Binding{bind(name, "q", "k"), bind(name, "r", "k"), bind(name, "q", "#"), bind(name, "s", "*"), bind(name, "q", "")}
		for i, b := range all {
			x := kindsOf(t)
			bindAll(t, x, all...)
			for _, none := range []api.Binding{bind("", "q", "k"), bind("", "q", long), {}} {
				wantUnbind(t, x, none, api.Refused)
			}
			for _, none := range []api.Binding{bind("none", "q", "k"), bind("none", "q", long), bind("q", name, "k")} {
				wantUnbind(t, x, none, api.NotFound)
			}
			// Of what isn't bound, though much the same is.
			for _, none := range []api.Binding{bind(name, "s", "k"), bind(name, "r", "#"), bind(name, "", ""), bind(name, "Q", "k"), bind(name, "q", "K"), bind(name, "q", long), bind(name, "k", "q")} {
				wantUnbind(t, x, none, api.OK)
			}
			wantOf(t, x, name, all...)
			for range 2 {
				wantUnbind(t, x, b, api.OK)
				wantOf(t, x, name, slices.Delete(slices.Clone(all), i, i+1)...)
			}
			wantNames(t, x, "d", "f", "t", "a", "b", "c")
		}
	}
}

// P13.1: of two exchanges with the same bindings one alone loses its own.
func TestUnbindOfOne(t *testing.T) {
	x := exchange.New()
	for _, name := range []string{"one", "other"} {
		wantDeclare(t, x, name, api.Topic, api.AutoDelete, api.OK)
		bindAll(t, x, bind(name, "q", "a.#"), bind(name, "r", "*.b"))
	}
	wantUnbind(t, x, bind("one", "q", "a.#"), api.OK)
	wantRoute(t, x, "one", "a.b", "r")
	wantRoute(t, x, "other", "a.b", "q", "r")
	wantUnbind(t, x, bind("one", "r", "*.b"), api.OK)
	wantNoRoute(t, x, "one", "a.b")
	wantRoute(t, x, "other", "a.b", "q", "r")
}

// P13.1: DropQueue: none of that queue is there, of whatever exchange; all others are.
func TestDropQueue(t *testing.T) {
	x := kindsOf(t)
	for _, name := range []string{"d", "f", "t"} {
		bindAll(t, x, bind(name, "q", "k"), bind(name, "r", "k"), bind(name, "q", "#"), bind(name, "s", "q"), bind(name, "q", "*"), bind(name, "r", "#"))
	}
	for _, none := range []string{"", "none", "Q", "k", "d", "#", strings.Repeat("q", 1<<20)} {
		x.DropQueue(none)
		wantRoute(t, x, "d", "k", "q", "r")
		wantRoute(t, x, "f", "k", "q", "r", "s")
		wantRoute(t, x, "t", "k", "q", "r")
	}
	for range 2 {
		x.DropQueue("q")
		for _, name := range []string{"d", "f", "t"} {
			wantOf(t, x, name, bind(name, "r", "k"), bind(name, "s", "q"), bind(name, "r", "#"))
		}
		wantRoute(t, x, "d", "k", "r")
		wantRoute(t, x, "d", "#", "r")
		wantRoute(t, x, "f", "k", "r", "s")
		wantRoute(t, x, "t", "k", "r")
		wantRoute(t, x, "t", "q", "s", "r")
		wantNames(t, x, "d", "f", "t", "a", "b", "c")
	}
	bindAll(t, x, bind("t", "q", "k"), bind("d", "q", "k"))
	wantRoute(t, x, "t", "k", "r", "q")
	wantRoute(t, x, "d", "k", "r", "q")
	x.DropQueue("r")
	x.DropQueue("s")
	x.DropQueue("q")
	for _, name := range []string{"d", "f", "t"} {
		wantOf(t, x, name)
		wantRoute(t, x, name, "k")
	}
}

// P13.1: an exchange with AutoDelete goes with its last binding, not with one ahead of
// that, not without one that went; one without AutoDelete stays.
func TestAutoDelete(t *testing.T) {
	for _, last := range []func(x *exchange.Exchanges, b api.Binding){
		func(x *exchange.Exchanges, b api.Binding) { x.Unbind(b) },
		func(x *exchange.Exchanges, b api.Binding) { x.DropQueue(b.Queue) },
	} {
		for _, name := range []string{"d", "f", "t", "a", "b", "c"} {
			x := kindsOf(t)
			first, second := bind(name, "q", "k"), bind(name, "r", "k")
			last(x, first)
			wantHas(t, x, name, true)
			bindAll(t, x, first, second)
			last(x, bind(name, "none", "k"))
			last(x, first)
			wantRoute(t, x, name, "k", "r")
			last(x, first)
			wantRoute(t, x, name, "k", "r")
			last(x, second)
			left := []string{"d", "f", "t", "a", "b", "c"}
			if name < "d" {
				left = slices.DeleteFunc(left, func(s string) bool { return s == name })
				wantHas(t, x, name, false)
				wantNoRoute(t, x, name, "k")
				wantBind(t, x, first, api.NotFound)
				wantUnbind(t, x, first, api.NotFound)
				wantDelete(t, x, name, 0, api.NotFound)
			}
			wantNames(t, x, left...)
			last(x, second)
			wantNames(t, x, left...)
		}
	}
}

// P13.1: all that one queue leaves without a binding go at once, no others.
func TestAutoDeleteOfMany(t *testing.T) {
	x := kindsOf(t)
	wantDeclare(t, x, "e", api.Fanout, api.AutoDelete, api.OK)
	bindAll(t, x, bind("c", "q", "k"), bind("b", "q", "k"), bind("d", "q", "k"), bind("c", "q", "#"), bind("a", "q", "k"), bind("b", "r", "k"))
	x.DropQueue("q")
	wantNames(t, x, "d", "f", "t", "b", "e")
	wantOf(t, x, "b", bind("b", "r", "k"))
	// A new one of the name of one that went is as new as any.
	wantDeclare(t, x, "c", api.Topic, 0, api.OK)
	wantNames(t, x, "d", "f", "t", "b", "e", "c")
	wantRoute(t, x, "c", "k")
	bindAll(t, x, bind("c", "r", "k"))
	x.DropQueue("r")
	wantNames(t, x, "d", "f", "t", "e", "c")
}

// P13.1, P13.2: deleting one that has bindings doesn't touch another with AutoDelete.
func TestDeleteLeavesOthers(t *testing.T) {
	x := kindsOf(t)
	bindAll(t, x, bind("d", "q", "k"), bind("c", "q", "k"))
	wantDelete(t, x, "d", 0, api.OK)
	wantNames(t, x, "f", "t", "a", "b", "c")
	wantRoute(t, x, "c", "k", "q")
}

// P13.2: Route of "": the key, whatever it is, whether there is such a queue or not (the
// chapter's example is the first).
func TestRouteOfNoName(t *testing.T) {
	x := kindsOf(t)
	bindAll(t, x, bind("t", "r", "#"), bind("f", "r", ""))
	for _, key := range []string{"q", "", "a.b", "#", "*", "\x00\xff", "t", " q\n", strings.Repeat("k", 1<<20)} {
		wantRoute(t, x, "", key, key)
	}
}

// P13.2: Route of one that isn't there.
func TestRouteOfNone(t *testing.T) {
	x := kindsOf(t)
	bindAll(t, x, bind("t", "q", "#"), bind("f", "q", ""))
	for _, none := range []string{"none", "T", "tt", "t ", " ", "#", "*", "q", "\x00", strings.Repeat("t", 1<<20)} {
		wantNoRoute(t, x, none, "")
		wantNoRoute(t, x, none, "k")
		wantHas(t, x, none, false)
		wantOf(t, x, none)
	}
}

// P13.2: Direct: a key is just that; stars of either stand for themselves.
func TestRouteDirect(t *testing.T) {
	x := kindsOf(t)
	keys := []string{"k", "a.b", "*", "#", "a.*", "a.#", "", "K", ".", "\xff"}
	for _, key := range keys {
		bindAll(t, x, bind("d", "of "+key, key))
	}
	for _, key := range keys {
		wantRoute(t, x, "d", key, "of "+key)
	}
	bindAll(t, x, bind("d", "z", "k"), bind("d", "y", "k"), bind("d", "z", "l"), bind("d", "of k", "l"))
	wantRoute(t, x, "d", "k", "of k", "z", "y")
	wantRoute(t, x, "d", "l", "z", "of k")
	for _, none := range []string{"kk", "a", "a.c", "a.b.c", " ", "**", strings.Repeat("k", 1<<20)} {
		wantRoute(t, x, "d", none)
	}
}

// P13.2: Fanout: all, whatever the keys, each once, where it was first bound.
func TestRouteFanout(t *testing.T) {
	x := kindsOf(t)
	wantRoute(t, x, "f", "k")
	bindAll(t, x, bind("f", "r", "x"), bind("f", "q", "y"), bind("f", "r", "z"), bind("d", "n", "k"), bind("f", "p", "#"), bind("f", "q", ""))
	for _, key := range []string{"", "x", "none", "#", strings.Repeat("k", 1<<20)} {
		wantRoute(t, x, "f", key, "r", "q", "p")
	}
	// The binding by which it came first goes.
	wantUnbind(t, x, bind("f", "r", "x"), api.OK)
	wantRoute(t, x, "f", "x", "q", "r", "p")
}

// P13.2: Topic: by pattern, each once, in the order of the bindings, not of what they match.
func TestRouteTopic(t *testing.T) {
	x := kindsOf(t)
	wantRoute(t, x, "t", "a")
	bindAll(t, x, bind("t", "q", "z.#"), bind("t", "s", "#"), bind("t", "r", "*.b"), bind("t", "q", "a.#"), bind("t", "p", "a"), bind("t", "r", "a.b"), bind("f", "n", "#"))
	for key, want := range map[string]string{
		"a": "s q p", "a.b": "s r q", "z.b": "q s r", "z": "q s", "": "s", "b": "s", ".b": "s r", "a.b.c": "s q", "#": "s", "#.b": "s r", "z.#": "q s", "A": "s",
	} {
		wantRoute(t, x, "t", key, strings.Fields(want)...)
	}
	wantRoute(t, x, "t", strings.Repeat("a.", 1<<16), "s", "q")
	wantUnbind(t, x, bind("t", "s", "#"), api.OK)
	wantUnbind(t, x, bind("t", "q", "a.#"), api.OK)
	wantRoute(t, x, "t", "a.b", "r")
	wantRoute(t, x, "t", "")
	wantRoute(t, x, "t", "z.b", "q", "r")
	bindAll(t, x, bind("t", "s", "#"), bind("t", "o", "a.*"))
	wantRoute(t, x, "t", "a.b", "r", "s", "o")
}

// P13.2: one key of many queues, and of one queue many keys.
func TestRouteTopicOfMany(t *testing.T) {
	x := kindsOf(t)
	var names []string
	for i := range api.MaxBinds {
		names = append(names, strconv.Itoa(100-i))
		bindAll(t, x, bind("t", names[i], "#"))
	}
	wantRoute(t, x, "t", "a.b", names...)
	for i := 0; i < api.MaxBinds; i += 2 {
		wantUnbind(t, x, bind("t", names[i], "#"), api.OK)
		bindAll(t, x, bind("t", names[i], "a.#"))
		names = append(names, names[i])
		names[i] = ""
	}
	names = slices.DeleteFunc(names, func(s string) bool { return s == "" })
	wantRoute(t, x, "t", "a.b", names...)
	for _, name := range names {
		x.DropQueue(name)
	}
	for i := range api.MaxBinds {
		bindAll(t, x, bind("t", "q", strings.Repeat("*.", i%10)+strings.Repeat("#.", i/10)+"#"))
	}
	for _, key := range []string{"", "a", "a.b.c", strings.Repeat("a.", 100)} {
		wantRoute(t, x, "t", key, "q")
	}
}

// P13.2: what is answered is new each time, its spare room too.
func TestAnswersAreNew(t *testing.T) {
	x := kindsOf(t)
	for _, name := range []string{"d", "f", "t"} {
		bindAll(t, x, bind(name, "q", "k"), bind(name, "r", "k"), bind(name, "s", "k"))
	}
	for range 2 {
		for _, name := range []string{"", "d", "f", "t"} {
			want, _ := x.Route(name, "k")
			want = slices.Clone(want)
			got, _ := x.Route(name, "k")
			spoil(got, "other")
			wantRoute(t, x, name, "k", want...)
			rows := x.Of(name)
			kept := slices.Clone(rows)
			spoil(rows, bind("other", "other", "other"))
			wantOf(t, x, name, kept...)
		}
		spoil(x.Names(), "other")
		wantNames(t, x, "d", "f", "t", "a", "b", "c")
	}
	wantDeclare(t, x, "g", api.Direct, 0, api.OK)
	bindAll(t, x, bind("d", "p", "k"))
	wantNames(t, x, "d", "f", "t", "a", "b", "c", "g")
	wantRoute(t, x, "d", "k", "q", "r", "s", "p")
}

// spoil writes over a list and the room behind it.
func spoil[T any](list []T, with T) {
	whole := list[:cap(list)]
	for i := range whole {
		whole[i] = with
	}
}
