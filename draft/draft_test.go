package draft_test

import (
	"math"
	"slices"
	"strconv"
	"strings"
	"testing"

	"mailcoach/api"
	"mailcoach/draft"
)

// edges are ints at which something may turn.
var edges = []int{math.MinInt, math.MinInt + 1, -1 << 32, -1000000, -256, -2, -1, 0, 1, 2, 3, 255, 256, 999999, 1000000, 1000001, 1 << 32, 1<<32 + 1, math.MaxInt - 1, math.MaxInt}

// notes are what a draft should tell, each sort by itself.
type notes struct {
	entries []api.Entry
	bits    []int
	acks    [][2]int
}

func (n *notes) publish(e api.Entry, bits int) {
	n.entries, n.bits = append(n.entries, e), append(n.bits, bits)
}

func (n *notes) ack(tag, bits int) { n.acks = append(n.acks, [2]int{tag, bits}) }

// has asks one by one.
func (n *notes) has(tag int) bool {
	return slices.ContainsFunc(n.acks, func(a [2]int) bool { return a[0] == tag })
}

// both notes the same in a draft and in what it should tell.
type both struct {
	*testing.T
	draft *draft.Draft
	want  notes
}

func newBoth(t *testing.T) *both { return &both{T: t, draft: draft.New()} }

func (b *both) publish(e api.Entry, bits int) {
	b.draft.Publish(e, bits)
	b.want.publish(e, bits)
}

func (b *both) ack(tag, bits int) {
	b.draft.Ack(tag, bits)
	b.want.ack(tag, bits)
}

func (b *both) clear() {
	b.draft.Clear()
	b.want = notes{}
}

// check: the draft tells just that.
func (b *both) check() {
	b.Helper()
	wantNotes(b.T, b.draft, b.want)
}

// wantNotes: the draft tells just that, in that order, and has the tags of the acks, and
// no other ones.
func wantNotes(t *testing.T, d *draft.Draft, want notes) {
	t.Helper()
	wantRows(t, d, want)
	asked := slices.Clone(edges)
	for _, a := range want.acks {
		asked = append(asked, a[0]-1, a[0], a[0]+1, a[1])
	}
	for i, e := range want.entries {
		asked = append(asked, e.ID, e.Body, want.bits[i])
	}
	slices.Sort(asked)
	for _, tag := range slices.Compact(asked) {
		if got := d.Has(tag); got != want.has(tag) {
			t.Fatalf("Has(%d): %v, of %.200v", tag, got, want.acks)
		}
	}
}

// wantRows: the rows alone.
func wantRows(t *testing.T, d *draft.Draft, want notes) {
	t.Helper()
	entries, bits := d.Publishes()
	if !slices.Equal(entries, want.entries) || !slices.Equal(bits, want.bits) {
		t.Fatalf("Publishes: %.300v, %.100v; want %.300v, %.100v", entries, bits, want.entries, want.bits)
	}
	if acks := d.Acks(); !slices.Equal(acks, want.acks) {
		t.Fatalf("Acks: %.200v; want %.200v", acks, want.acks)
	}
	if n := len(want.entries) + len(want.acks); d.Len() != n {
		t.Fatalf("Len: %d; want %d", d.Len(), n)
	}
}

// msg is an entry of which the ID tells.
func msg(id int) api.Entry { return api.Entry{ID: id, Body: 2 * id, Key: strconv.Itoa(id)} }

// many are so many notes of each sort, laid in turn.
func many(t *testing.T, publishes, acks int) *both {
	t.Helper()
	b := newBoth(t)
	for n := range max(publishes, acks) {
		if n < publishes {
			b.publish(msg(n+1), n%2)
		}
		if n < acks {
			b.ack(7*n+5, n%4)
		}
	}
	return b
}

// P20.1: a new draft has nothing, nor has one that nobody made; both go on from there, by
// whatever call.
func TestNew(t *testing.T) {
	for _, made := range []func() *draft.Draft{draft.New, func() *draft.Draft { return &draft.Draft{} }} {
		d := made()
		wantNotes(t, d, notes{})
		wantNotes(t, d, notes{})
		d.Clear()
		wantNotes(t, d, notes{})
		// Each call is the first one once.
		d = made()
		d.Publish(msg(3), 1)
		wantNotes(t, d, notes{[]api.Entry{msg(3)}, []int{1}, nil})
		d = made()
		d.Ack(3, 1)
		wantNotes(t, d, notes{acks: [][2]int{{3, 1}}})
		if made().Has(0) || made().Has(3) || made().Len() != 0 || len(made().Acks()) != 0 {
			t.Fatal("a first call")
		}
		if entries, bits := made().Publishes(); len(entries) != 0 || len(bits) != 0 {
			t.Fatal("a first call", entries, bits)
		}
	}
}

// P20.2: the example: Publish, Clear: nothing.
func TestExample(t *testing.T) {
	b := newBoth(t)
	b.publish(msg(1), 1)
	b.check()
	b.clear()
	b.check()
	wantNotes(t, b.draft, notes{})
}

// P20.1: each is behind all of its sort, whatever their IDs, Prios, tags, bits are.
func TestBehindAll(t *testing.T) {
	b := newBoth(t)
	for _, n := range []int{5, 3, 9, 1, 7, 3, 0, -4, 5} {
		e := msg(n)
		e.Prio = n % 4
		b.publish(e, 9-n)
		b.check()
		b.ack(n, 9-n)
		b.check()
	}
	b.ack(7, 2)
	b.publish(msg(7), 0)
	b.check()
}

// P20.1: in whatever order the two sorts come, neither moves the other one.
func TestSortsAreApart(t *testing.T) {
	const length = 8
	for set := range 1 << length {
		b := newBoth(t)
		for n := range length {
			if set>>n&1 == 1 {
				b.publish(msg(n), n)
			} else {
				b.ack(n, n)
			}
		}
		b.check()
	}
}

// P20.1: the same one is noted as often as it comes.
func TestSameOnes(t *testing.T) {
	b := newBoth(t)
	for range 3 {
		b.publish(msg(4), 1)
		b.ack(4, 1)
		b.publish(api.Entry{}, 0)
		b.ack(0, 0)
		b.check()
		if b.draft.Len() != 4*len(b.want.acks)/2 {
			t.Fatal(b.draft.Len())
		}
	}
	// Of one tag with other bits both are told, the first one first.
	b.ack(4, 2)
	b.ack(4, 0)
	b.check()
}

// P20.1: an entry comes out as it was noted, with all that it has, whatever that is.
func TestWholeEntries(t *testing.T) {
	all := []api.Entry{
		{},
		{ID: 1, Body: 2, Size: 3, Exchange: "e", Key: "k.k", Prio: 3, TTL: 4, Until: 5, Again: true, Hops: 6},
		{ID: -1, Body: -2, Size: -3, Exchange: strings.Repeat("e", 300), Key: "\xff\x00é", Prio: -3, TTL: -4, Until: -5, Hops: -6},
		{ID: math.MinInt, Body: math.MaxInt, Size: math.MinInt, Prio: math.MaxInt, TTL: math.MinInt, Until: math.MaxInt, Hops: math.MinInt},
		{ID: math.MaxInt, Exchange: "\x00", Key: strings.Repeat("k", 1000), Again: true},
		{Prio: 9}, {TTL: 99}, {Until: 1}, {Hops: 99}, {Again: true}, {Exchange: "e"}, {Key: "k"}, {Body: 1}, {Size: 1},
	}
	whole := newBoth(t)
	for i, e := range all {
		one := newBoth(t)
		one.publish(e, edges[i])
		one.check()
		whole.publish(e, edges[i])
	}
	whole.check()
}

// P20.1: tags and bits may be any ints.
func TestAnyInts(t *testing.T) {
	whole := newBoth(t)
	for _, tag := range edges {
		for _, bits := range edges {
			one := newBoth(t)
			one.ack(tag, bits)
			one.check()
			one.publish(msg(1), bits)
			one.check()
			whole.ack(tag, bits)
			whole.publish(msg(1), bits)
		}
	}
	whole.check()
	whole.clear()
	whole.check()
}

// P20.1: Has tells of a tag whether an Ack of it is noted: no publish, no bits, no other tag
// count.
func TestHas(t *testing.T) {
	for set := range 1 << 9 {
		b := newBoth(t)
		for n := range 9 {
			if set>>n&1 == 1 {
				b.ack(n-4, 40+n)
			} else {
				b.publish(msg(n-4), n-4)
			}
		}
		for tag := -10; tag < 60; tag++ {
			want := tag >= -4 && tag < 5 && set>>(tag+4)&1 == 1
			if b.draft.Has(tag) != want || b.want.has(tag) != want {
				t.Fatalf("Has(%d): %v; want %v", tag, b.draft.Has(tag), want)
			}
		}
	}
}

// P20.2: Clear leaves nothing, however many there are of each sort, and what comes behind it
// is noted as in a new one.
func TestClear(t *testing.T) {
	for publishes := range 12 {
		for acks := range 12 {
			b := many(t, publishes, acks)
			b.check()
			for range 2 {
				b.draft.Clear()
				wantNotes(t, b.draft, notes{})
				for n := range acks {
					if b.draft.Has(7*n + 5) {
						t.Fatalf("Has(%d) behind Clear", 7*n+5)
					}
				}
			}
			b.clear()
			b.ack(5, 9)
			b.check()
			b.publish(msg(3), 9)
			b.check()
			b.ack(12, 8)
			b.check()
		}
	}
}

// P20.2: all of it is told each time, and asking takes nothing away.
func TestAskingChangesNothing(t *testing.T) {
	b := newBoth(t)
	for n := range 40 {
		b.publish(msg(n), n)
		b.ack(n*7%40, n)
		for range 3 {
			b.check()
		}
	}
}

// P20.1: what is answered is new each time, its spare room too, and no answer is touched
// by what comes later.
func TestAnswersAreNew(t *testing.T) {
	for length := range 30 {
		b := many(t, length, length)
		early, earlyBits := b.draft.Publishes()
		earlyAcks := b.draft.Acks()
		scratch(b.draft)
		b.check()
		want, wantBits, wantAcks := slices.Clone(early), slices.Clone(earlyBits), slices.Clone(earlyAcks)
		b.publish(msg(77), 7)
		b.ack(77, 7)
		scratch(b.draft)
		b.check()
		b.draft.Clear()
		for n := range 2 * length {
			b.draft.Publish(msg(-n), -n)
			b.draft.Ack(-n, -n)
		}
		scratch(b.draft)
		if !slices.Equal(early, want) || !slices.Equal(earlyBits, wantBits) || !slices.Equal(earlyAcks, wantAcks) {
			t.Fatalf("of %d an earlier answer was touched: %v, %v, %v", length, early, earlyBits, earlyAcks)
		}
	}
}

// scratch writes over all answers of a draft, their spare room too.
func scratch(d *draft.Draft) {
	entries, bits := d.Publishes()
	for i := range entries[:cap(entries)] {
		entries[:cap(entries)][i] = api.Entry{ID: -1, Key: "scratched"}
	}
	for i := range bits[:cap(bits)] {
		bits[:cap(bits)][i] = -1
	}
	acks := d.Acks()
	for i := range acks[:cap(acks)] {
		acks[:cap(acks)][i] = [2]int{-1, -1}
	}
}

// P20.1: drafts don't know of other ones.
func TestDraftsAreApart(t *testing.T) {
	a, b := newBoth(t), newBoth(t)
	for n := range 20 {
		a.publish(msg(n), n)
		a.ack(n, n)
		b.check()
	}
	b.ack(300, 1)
	b.publish(msg(300), 1)
	a.check()
	b.check()
	a.clear()
	a.check()
	b.check()
}

// P20.1: however many there are, all are told in order, and Has is quick.
func TestMany(t *testing.T) {
	const most = 300000
	b := newBoth(t)
	for n := range most {
		b.publish(msg(n), n%3)
		tag := n * 7919 % most
		if b.draft.Has(tag) {
			t.Fatalf("Has(%d) ahead of its Ack", tag)
		}
		b.ack(tag, n%5)
	}
	wantRows(t, b.draft, b.want)
	for tag := -2; tag < most+2; tag++ {
		if b.draft.Has(tag) != (tag >= 0 && tag < most) {
			t.Fatalf("Has(%d): %v", tag, b.draft.Has(tag))
		}
	}
	b.clear()
	b.check()
}
