package rack

import (
	"runtime"
	"slices"
	"strconv"
	"strings"
	"testing"

	"mailcoach/api"
)

// wantRows: each entry that is held lies in the row of its Prio, once, and nothing else.
func wantRows(t *testing.T, r *Rack) {
	t.Helper()
	lie := 0
	for at, row := range r.rows {
		all := row.All()
		lie += len(all)
		if !slices.IsSorted(all) {
			t.Fatalf("row %d: %v", at, all)
		}
		for _, id := range all {
			if e, ok := r.held[id]; !ok || e.ID != id || e.Prio != api.MaxPrio-at {
				t.Fatalf("%d lies in row %d: %v, %v", id, at, e, ok)
			}
		}
	}
	if lie != len(r.held) || r.most < len(r.held) {
		t.Fatalf("%d lie, %d are held, %d were", lie, len(r.held), r.most)
	}
}

// P15.1: a rack that had many entries once doesn't hold their room for ever, however
// they went, and is the same behind it.
func TestRoomIsGivenBack(t *testing.T) {
	const most = 1 << 12
	ends := []func(r *Rack, i int){
		func(r *Rack, i int) { r.Take() },
		func(r *Rack, i int) { r.Drop(i) },
		func(r *Rack, i int) { r.Drop(most - 1 - i) },
		func(r *Rack, i int) { r.Gone(i + 1) },
		func(r *Rack, i int) { e, _ := r.Worst(); r.Drop(e.ID) },
	}
	for way, end := range ends {
		r := New()
		for id := range most {
			r.Put(api.Entry{ID: id, Prio: id % 4, Until: id + 1})
		}
		for i := range most {
			end(r, i)
			if left := r.Len(); left != most-1-i || r.most > max(leastRoom, 4*(left+1)) {
				t.Fatalf("way %d: room for %d, %d entries", way, r.most, left)
			}
			if i%100 == 0 || i > most-40 {
				wantRows(t, r)
			}
		}
	}
}

// P15.1: a rack that goes to and fro at one length isn't laid anew each time.
func TestRoomStaysAtOneLength(t *testing.T) {
	for length := range 200 {
		r := New()
		for id := range 4 * length {
			r.Put(api.Entry{ID: id})
		}
		for r.Len() > length {
			r.Take()
		}
		moved, was := 0, r.most
		look := func() {
			if r.most != was {
				moved, was = moved+1, r.most
			}
		}
		for range 50 {
			r.Drop(4*length - 1)
			look()
			r.Put(api.Entry{ID: 4*length - 1})
			look()
		}
		if moved > 2 { // given back once, and one more behind that
			t.Fatalf("a rack of %d was moved %d times", length, moved)
		}
	}
}

// P15.1: what went isn't held any more, nor are the long texts from which short ones were
// cut.
func TestNothingMoreIsHeld(t *testing.T) {
	const long = 1 << 20
	r := New()
	before := heldBytes()
	for i := range 40 {
		text := strings.Repeat("e", long) + "k" + strconv.Itoa(i)
		r.Put(api.Entry{ID: i, Exchange: text[:1], Key: text[long:]})
	}
	if grown := heldBytes() - before; grown > 10*long {
		t.Errorf("%d bytes are held for %d short texts", grown, 2*r.Len())
	}
	if e, _ := r.Worst(); e.Exchange != "e" || e.Key != "k0" {
		t.Errorf("%q, %q", e.Exchange, e.Key)
	}
	for i := range 40 {
		r.Put(api.Entry{ID: 40 + i, Key: strings.Repeat(strconv.Itoa(i%10), long), Until: i%2 + 1})
	}
	r.Gone(1)
	for i := range 40 {
		r.Drop(40 + i)
	}
	if grown := heldBytes() - before; grown > 10*long {
		t.Errorf("%d bytes are held of what went", grown)
	}
	runtime.KeepAlive(r)
}

// heldBytes tells how many bytes can't be given back.
func heldBytes() int {
	var m runtime.MemStats
	runtime.GC()
	runtime.ReadMemStats(&m)
	return int(m.HeapAlloc)
}
