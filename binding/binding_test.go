package binding_test

import (
	"slices"
	"strconv"
	"strings"
	"testing"

	"mailcoach/api"
	"mailcoach/binding"
)

// bind is a binding of a queue to an exchange by a key.
func bind(exchange, queue, key string) api.Binding {
	return api.Binding{Exchange: exchange, Queue: queue, Key: key}
}

// tableOf is a table with those, each of them a new one.
func tableOf(t *testing.T, all ...api.Binding) *binding.Table {
	t.Helper()
	x := binding.New()
	for _, b := range all {
		wantAdd(t, x, b, true, api.OK)
	}
	return x
}

// full is a table with as many bindings as there may be: of four queues to five
// exchanges by two keys.
func full(t *testing.T) *binding.Table {
	t.Helper()
	var all []api.Binding
	for i := range api.MaxBinds {
		all = append(all, bind("e"+strconv.Itoa(i%5), "q"+strconv.Itoa(i/5%4), "k"+strconv.Itoa(i/20)))
	}
	x := tableOf(t, all...)
	wantLen(t, x, api.MaxBinds)
	return x
}

func wantAdd(t *testing.T, x *binding.Table, b api.Binding, added bool, want api.Errno) {
	t.Helper()
	if ok, e := x.Add(b); ok != added || e != want {
		t.Fatalf("Add(%.80q): %v, %v; want %v, %v", b, ok, e, added, want)
	}
}

func wantDrop(t *testing.T, x *binding.Table, b api.Binding, want bool) {
	t.Helper()
	if ok := x.Drop(b); ok != want {
		t.Fatalf("Drop(%.80q): %v; want %v", b, ok, want)
	}
}

func wantDropQueue(t *testing.T, x *binding.Table, queue string, want ...string) {
	t.Helper()
	if got := x.DropQueue(queue); !slices.Equal(got, want) {
		t.Fatalf("DropQueue(%.80q): %.200q; want %.200q", queue, got, want)
	}
}

func wantOf(t *testing.T, x *binding.Table, exchange string, want ...api.Binding) {
	t.Helper()
	if got := x.Of(exchange); !slices.Equal(got, want) {
		t.Fatalf("Of(%.80q): %.200q; want %.200q", exchange, got, want)
	}
}

func wantKeyed(t *testing.T, x *binding.Table, exchange, key string, want ...string) {
	t.Helper()
	if got := x.Keyed(exchange, key); !slices.Equal(got, want) {
		t.Fatalf("Keyed(%.80q, %.80q): %.200q; want %.200q", exchange, key, got, want)
	}
}

func wantLen(t *testing.T, x *binding.Table, want int) {
	t.Helper()
	if got := x.Len(); got != want {
		t.Fatalf("Len: %d; want %d", got, want)
	}
}

// P11.1: of a new table, and of one that nobody made, nothing is there.
func TestNew(t *testing.T) {
	var zero binding.Table
	for _, x := range []*binding.Table{binding.New(), &zero} {
		for range 2 {
			wantLen(t, x, 0)
			wantOf(t, x, "")
			wantOf(t, x, "e")
			wantKeyed(t, x, "", "")
			wantKeyed(t, x, "e", "k")
			wantDrop(t, x, api.Binding{}, false)
			wantDrop(t, x, bind("e", "q", "k"), false)
			wantDropQueue(t, x, "")
			wantDropQueue(t, x, "q")
			x.DropExchange("")
			x.DropExchange("e")
		}
		wantAdd(t, x, bind("e", "q", "k"), true, api.OK)
		wantOf(t, x, "e", bind("e", "q", "k"))
		wantLen(t, x, 1)
	}
}

// P11.1, P11.2: what is there isn't added again (the chapter's example); it stays where
// it was.
func TestAddTwice(t *testing.T) {
	x := binding.New()
	first, second := bind("e", "q", "k"), bind("e", "r", "k")
	wantAdd(t, x, first, true, api.OK)
	wantAdd(t, x, first, false, api.OK)
	wantAdd(t, x, second, true, api.OK)
	for range 3 {
		wantAdd(t, x, first, false, api.OK)
		wantAdd(t, x, second, false, api.OK)
		wantOf(t, x, "e", first, second)
		wantKeyed(t, x, "e", "k", "q", "r")
		wantLen(t, x, 2)
	}
	wantDrop(t, x, first, true)
	wantDrop(t, x, first, false)
	wantOf(t, x, "e", second)
	wantAdd(t, x, first, true, api.OK)
	wantAdd(t, x, first, false, api.OK)
	wantOf(t, x, "e", second, first)
	wantKeyed(t, x, "e", "k", "r", "q")
}

// P11.1, P11.2: bindings that differ in one of the three, or in where one ends, are others.
func TestOthersAreOthers(t *testing.T) {
	all := []api.Binding{
		bind("a", "b", "c"), bind("x", "b", "c"), bind("a", "x", "c"), bind("a", "b", "x"),
		bind("A", "b", "c"), bind("a", "B", "c"), bind("a", "b", "C"),
		bind("ab", "", "c"), bind("a", "bc", ""), bind("", "ab", "c"), bind("", "a", "bc"), bind("abc", "", ""), bind("", "", "abc"), bind("", "abc", ""),
		bind("b", "a", "c"), bind("c", "b", "a"), bind("a", "c", "b"),
		bind("", "", ""), bind("a", "", ""), bind("", "a", ""), bind("", "", "a"),
		bind("a\x00b", "c", ""), bind("a", "\x00b", "c"), bind("a.b", "c", ""), bind("a", "b.c", ""), bind(" a", "b", "c"), bind("a", "b", "c "),
	}
	x := tableOf(t, all...)
	for _, b := range all {
		wantAdd(t, x, b, false, api.OK)
	}
	wantLen(t, x, len(all))
	wantOf(t, x, "a", bind("a", "b", "c"), bind("a", "x", "c"), bind("a", "b", "x"), bind("a", "B", "c"), bind("a", "b", "C"), bind("a", "bc", ""), bind("a", "c", "b"), bind("a", "", ""), bind("a", "\x00b", "c"), bind("a", "b.c", ""), bind("a", "b", "c "))
	wantOf(t, x, "", bind("", "ab", "c"), bind("", "a", "bc"), bind("", "", "abc"), bind("", "abc", ""), bind("", "", ""), bind("", "a", ""), bind("", "", "a"))
	wantOf(t, x, "ab", bind("ab", "", "c"))
	wantKeyed(t, x, "a", "c", "b", "x", "B", "\x00b")
	wantKeyed(t, x, "", "", "abc", "", "a")
	for i, b := range all {
		wantDrop(t, x, b, true)
		wantDrop(t, x, b, false)
		for _, other := range all[i+1:] {
			wantAdd(t, x, other, false, api.OK)
		}
		wantLen(t, x, len(all)-i-1)
	}
}

// P11.1: whatever names and keys there are, the table takes them: names that are none,
// keys that are too long, bytes that are no letters.
func TestAllArguments(t *testing.T) {
	texts := []string{"", ".", "*", "#", "a b", "\x00", "\xff\xfe", "é", strings.Repeat("n", api.MaxName+1), strings.Repeat("k", api.MaxKey+1), strings.Repeat("w.", 1<<19)}
	for _, exchange := range texts {
		for _, queue := range texts {
			x := binding.New()
			for _, key := range texts {
				wantAdd(t, x, bind(exchange, queue, key), true, api.OK)
				wantAdd(t, x, bind(exchange, queue, key), false, api.OK)
			}
			wantLen(t, x, len(texts))
			for i, b := range x.Of(exchange) {
				if b != bind(exchange, queue, texts[i]) {
					t.Fatalf("%.80q at %d", b, i)
				}
				wantKeyed(t, x, exchange, texts[i], queue)
			}
			wantDrop(t, x, bind(exchange, queue, texts[3]), true)
			wantKeyed(t, x, exchange, texts[3])
			wantDropQueue(t, x, queue, exchange)
			wantLen(t, x, 0)
		}
	}
}

// P11.1: MaxBinds are there, whatever they are of; one more is refused and changes
// nothing; of what is there that is told first.
func TestFull(t *testing.T) {
	x := full(t)
	for range 3 {
		wantAdd(t, x, bind("e0", "q0", "more"), false, api.ErrFull)
		wantAdd(t, x, bind("e0", "more", "k0"), false, api.ErrFull)
		wantAdd(t, x, bind("more", "q0", "k0"), false, api.ErrFull)
		wantAdd(t, x, api.Binding{}, false, api.ErrFull)
		wantAdd(t, x, bind("e0", "q0", "k0"), false, api.OK)
		wantAdd(t, x, bind("e4", "q3", "k1"), false, api.OK)
		wantLen(t, x, api.MaxBinds)
		wantOf(t, x, "e0", bind("e0", "q0", "k0"), bind("e0", "q1", "k0"), bind("e0", "q2", "k0"), bind("e0", "q3", "k0"), bind("e0", "q0", "k1"), bind("e0", "q1", "k1"), bind("e0", "q2", "k1"), bind("e0", "q3", "k1"))
		wantOf(t, x, "more")
		wantOf(t, x, "")
	}
	// One of another exchange makes room for one.
	wantDrop(t, x, bind("e2", "q2", "k1"), true)
	wantLen(t, x, api.MaxBinds-1)
	wantAdd(t, x, bind("more", "q0", "k0"), true, api.OK)
	wantAdd(t, x, bind("more", "q1", "k0"), false, api.ErrFull)
	wantAdd(t, x, bind("e2", "q2", "k1"), false, api.ErrFull)
	wantAdd(t, x, bind("more", "q0", "k0"), false, api.OK)
	wantLen(t, x, api.MaxBinds)
}

// P11.1: there is room for each that went, however it went.
func TestRoomComesBack(t *testing.T) {
	for _, drop := range []struct {
		gone int
		do   func(x *binding.Table)
	}{
		{0, func(x *binding.Table) { x.Drop(bind("e1", "q1", "none")) }},
		{0, func(x *binding.Table) { x.DropQueue("none") }},
		{0, func(x *binding.Table) { x.DropExchange("none") }},
		{1, func(x *binding.Table) { x.Drop(bind("e1", "q1", "k1")) }},
		{10, func(x *binding.Table) { x.DropQueue("q1") }},
		{8, func(x *binding.Table) { x.DropExchange("e1") }},
		{16, func(x *binding.Table) { x.DropQueue("q3"); x.DropExchange("e0") }},
	} {
		x := full(t)
		drop.do(x)
		wantLen(t, x, api.MaxBinds-drop.gone)
		for n := range drop.gone {
			wantAdd(t, x, bind("e1", "q1", "new"+strconv.Itoa(n)), true, api.OK)
		}
		wantAdd(t, x, bind("e1", "q1", "one more"), false, api.ErrFull)
		wantLen(t, x, api.MaxBinds)
	}
}

// P11.1: Drop: false of what isn't there, though one that is much the same is; the others
// stay in their order.
func TestDrop(t *testing.T) {
	all := []api.Binding{bind("e", "q", "k"), bind("f", "q", "k"), bind("e", "r", "k"), bind("e", "q", "l"), bind("e", "s", "#")}
	for i, b := range all {
		x := tableOf(t, all...)
		for _, other := range []api.Binding{{}, bind("e", "s", "k"), bind("e", "s", "*"), bind("g", "q", "k"), bind("f", "q", "l"), bind("f", "r", "k"), bind("q", "e", "k"), bind("e", "", ""), bind("", "q", "")} {
			wantDrop(t, x, other, false)
		}
		wantLen(t, x, len(all))
		wantDrop(t, x, b, true)
		wantDrop(t, x, b, false)
		left := slices.Delete(slices.Clone(all), i, i+1)
		wantLen(t, x, len(left))
		for _, exchange := range []string{"e", "f"} {
			wantOf(t, x, exchange, slices.DeleteFunc(slices.Clone(left), func(b api.Binding) bool { return b.Exchange != exchange })...)
		}
	}
}

// P11.1: DropQueue: all of that queue go, no other; the exchanges that they were of, each
// once, as the queue was bound to them, not as other queues were.
func TestDropQueue(t *testing.T) {
	rows := []api.Binding{bind("a", "r", "k"), bind("c", "q", "k"), bind("b", "r", "k"), bind("b", "q", "k"), bind("c", "q", "l"), bind("a", "q", "k"), bind("b", "q", "#"), bind("c", "q", ""), bind("d", "r", "q"), bind("q", "r", "k")}
	x := tableOf(t, rows...)
	wantDropQueue(t, x, "none")
	wantDropQueue(t, x, "")
	wantDropQueue(t, x, "Q")
	wantDropQueue(t, x, "#")
	wantDropQueue(t, x, "a")
	wantLen(t, x, len(rows))
	wantDropQueue(t, x, "q", "c", "b", "a")
	wantDropQueue(t, x, "q")
	wantLen(t, x, 4)
	wantOf(t, x, "a", bind("a", "r", "k"))
	wantOf(t, x, "b", bind("b", "r", "k"))
	wantOf(t, x, "c")
	wantOf(t, x, "d", bind("d", "r", "q"))
	wantOf(t, x, "q", bind("q", "r", "k"))
	// What is bound again lies behind all.
	wantAdd(t, x, bind("d", "q", "k"), true, api.OK)
	wantAdd(t, x, bind("a", "q", "k"), true, api.OK)
	wantOf(t, x, "a", bind("a", "r", "k"), bind("a", "q", "k"))
	wantDropQueue(t, x, "r", "a", "b", "d", "q")
	wantDropQueue(t, x, "q", "d", "a")
	wantLen(t, x, 0)
}

// P11.1: DropQueue of one that has all there may be, each of another exchange, and all
// of one.
func TestDropQueueOfMany(t *testing.T) {
	many, one := binding.New(), binding.New()
	var names []string
	for i := range api.MaxBinds {
		names = append(names, strconv.Itoa(100-i))
		wantAdd(t, many, bind(names[i], "q", ""), true, api.OK)
		wantAdd(t, one, bind("e", "q", names[i]), true, api.OK)
	}
	wantDropQueue(t, many, "q", names...)
	wantDropQueue(t, one, "q", "e")
	wantLen(t, many, 0)
	wantLen(t, one, 0)
}

// P11.1: DropExchange: all of it go, no other.
func TestDropExchange(t *testing.T) {
	x := tableOf(t, bind("e", "q", "k"), bind("f", "q", "e"), bind("e", "r", "k"), bind("f", "e", "k"), bind("e", "q", "f"), bind("E", "q", "k"), bind("", "q", "k"))
	for _, none := range []string{"none", "q", "k", "ee", "*", "#"} {
		x.DropExchange(none)
		wantLen(t, x, 7)
	}
	for range 2 {
		x.DropExchange("e")
		wantLen(t, x, 4)
		wantOf(t, x, "e")
		wantKeyed(t, x, "e", "k")
		wantOf(t, x, "f", bind("f", "q", "e"), bind("f", "e", "k"))
		wantOf(t, x, "E", bind("E", "q", "k"))
		wantOf(t, x, "", bind("", "q", "k"))
	}
	x.DropExchange("")
	wantLen(t, x, 3)
	wantDropQueue(t, x, "q", "f", "E")
	wantOf(t, x, "f", bind("f", "e", "k"))
	wantAdd(t, x, bind("e", "q", "k"), true, api.OK)
	wantOf(t, x, "e", bind("e", "q", "k"))
}

// P11.1: Keyed: just that Key: stars of either stand for themselves; in order, each queue
// once, of that exchange alone.
func TestKeyed(t *testing.T) {
	keys := []string{"", "a", "a.b", "*", "#", "a.*", "a.#", "*.b", ".", "A", "a ", "aa"}
	x := binding.New()
	for i, key := range keys {
		wantAdd(t, x, bind("e", "q"+strconv.Itoa(i), key), true, api.OK)
		wantAdd(t, x, bind("f", "r"+strconv.Itoa(i), key), true, api.OK)
		wantAdd(t, x, bind("e", "first", key), true, api.OK)
	}
	for i, key := range keys {
		wantKeyed(t, x, "e", key, "q"+strconv.Itoa(i), "first")
		wantKeyed(t, x, "f", key, "r"+strconv.Itoa(i))
		wantKeyed(t, x, "g", key)
		wantKeyed(t, x, "", key)
		wantKeyed(t, x, key, "e")
	}
	for _, none := range []string{"b", "a.", "a.c", "**", "a.b.c", "e", "first"} {
		wantKeyed(t, x, "e", none)
	}
	// As they were added, not by their names.
	y := tableOf(t, bind("e", "c", "k"), bind("e", "a", "k"), bind("e", "c", "l"), bind("e", "b", "k"), bind("e", "a", "l"))
	wantKeyed(t, y, "e", "k", "c", "a", "b")
	wantKeyed(t, y, "e", "l", "c", "a")
	wantDrop(t, y, bind("e", "c", "k"), true)
	wantAdd(t, y, bind("e", "c", "k"), true, api.OK)
	wantKeyed(t, y, "e", "k", "a", "b", "c")
}

// P11.1: what is answered is new each time, its spare room too.
func TestAnswersAreNew(t *testing.T) {
	x := full(t)
	of, keyed := x.Of("e1"), x.Keyed("e1", "k1")
	wantRows, wantQueues := slices.Clone(of), slices.Clone(keyed)
	for range 2 {
		scratch(x.Of("e1"), bind("?", "?", "?"))
		scratch(x.Keyed("e1", "k1"), "?")
		scratch(x.DropQueue("q0"), "?")
		wantRows = slices.DeleteFunc(wantRows, func(b api.Binding) bool { return b.Queue == "q0" })
		wantQueues = slices.DeleteFunc(wantQueues, func(q string) bool { return q == "q0" })
		wantOf(t, x, "e1", wantRows...)
		wantKeyed(t, x, "e1", "k1", wantQueues...)
		// An answer stays as it was.
		if len(of) != 8 || of[0] != bind("e1", "q0", "k0") || len(keyed) != 4 || keyed[0] != "q0" {
			t.Fatalf("an earlier answer: %q, %q", of, keyed)
		}
	}
	wantDropQueue(t, x, "q1", "e0", "e1", "e2", "e3", "e4")
	wantAdd(t, x, bind("e1", "new", "k1"), true, api.OK)
	if last := of[len(of)-1]; last != bind("e1", "q3", "k1") {
		t.Fatalf("an earlier answer: %q", of)
	}
}

// scratch writes into all of a list, its spare room too.
func scratch[T any](list []T, x T) {
	list = list[:cap(list)]
	for i := range list {
		list[i] = x
	}
}

// P11.1: what one table is told another one doesn't know.
func TestTablesAreApart(t *testing.T) {
	x, y := full(t), full(t)
	x.DropExchange("e0")
	wantDropQueue(t, x, "q0", "e1", "e2", "e3", "e4")
	wantAdd(t, x, bind("new", "q", "k"), true, api.OK)
	wantLen(t, y, api.MaxBinds)
	wantOf(t, y, "new")
	wantKeyed(t, y, "e0", "k0", "q0", "q1", "q2", "q3")
	wantDropQueue(t, y, "q0", "e0", "e1", "e2", "e3", "e4")
}

// model is the chapter's words on a plain row.
type model []api.Binding

func (m *model) add(b api.Binding) (bool, api.Errno) {
	for _, row := range *m {
		if row == b {
			return false, api.OK
		}
	}
	if len(*m) == 40 {
		return false, api.ErrFull
	}
	*m = append(*m, b)
	return true, api.OK
}

// without takes out what is so.
func (m *model) without(is func(b api.Binding) bool) (gone model) {
	var left model
	for _, row := range *m {
		if is(row) {
			gone = append(gone, row)
		} else {
			left = append(left, row)
		}
	}
	*m = left
	return gone
}

func (m *model) dropQueue(queue string) (exchanges []string) {
	seen := map[string]bool{}
	for _, row := range m.without(func(b api.Binding) bool { return b.Queue == queue }) {
		if !seen[row.Exchange] {
			exchanges = append(exchanges, row.Exchange)
		}
		seen[row.Exchange] = true
	}
	return exchanges
}

// wantAll: the table tells what the model tells.
func wantAll(t *testing.T, x *binding.Table, m model, exchanges, keys []string) {
	t.Helper()
	wantLen(t, x, len(m))
	for _, exchange := range exchanges {
		var rows []api.Binding
		queues := map[string][]string{}
		for _, row := range m {
			if row.Exchange == exchange {
				rows = append(rows, row)
				queues[row.Key] = append(queues[row.Key], row.Queue)
			}
		}
		wantOf(t, x, exchange, rows...)
		for _, key := range keys {
			wantKeyed(t, x, exchange, key, queues[key]...)
		}
	}
}

// P11.1, P11.2: whatever is done, in whatever order, often with no room left.
func TestOfAny(t *testing.T) {
	seed := uint64(11)
	below := func(n int) int {
		seed = seed*6364136223846793005 + 1442695040888963407
		return int(seed>>33) % n
	}
	exchanges, queues, keys := []string{"", "e", "f", "g", "h"}, []string{"", "q", "r", "s", "t"}, []string{"", "a", "#", "a.b"}
	fulls, twice, dropped := 0, 0, 0
	x, m := binding.New(), model{}
	for range 30000 {
		b := bind(exchanges[below(5)], queues[below(5)], keys[below(4)])
		switch act := below(100); {
		case act < 70:
			added, e := m.add(b)
			wantAdd(t, x, b, added, e)
			if e != api.OK {
				fulls++
			} else if !added {
				twice++
			}
		case act < 97:
			gone := len(m.without(func(row api.Binding) bool { return row == b })) > 0
			wantDrop(t, x, b, gone)
			if gone {
				dropped++
			}
		case act < 99:
			wantDropQueue(t, x, b.Queue, m.dropQueue(b.Queue)...)
		default:
			x.DropExchange(b.Exchange)
			m.without(func(row api.Binding) bool { return row.Exchange == b.Exchange })
		}
		wantAll(t, x, m, exchanges, keys)
	}
	if fulls < 1000 || twice < 1000 || dropped < 1000 {
		t.Fatalf("full %d times, there already %d times, dropped %d times", fulls, twice, dropped)
	}
}
