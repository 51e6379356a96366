package draft_test

import (
	"runtime"
	"strconv"
	"strings"
	"testing"

	"mailcoach/api"
	"mailcoach/draft"
)

const long = 1 << 20

// text is a long text that ends in k and a number.
func text(n int) string { return strings.Repeat("e", long) + "k" + strconv.Itoa(n) }

// P20.1: short texts that are cut from long ones don't hold these, and aren't changed.
func TestTextsAreOfTheirOwn(t *testing.T) {
	d := draft.New()
	before := heldBytes()
	for n := range 40 {
		exchange, key := text(n), text(n)
		d.Publish(api.Entry{Exchange: exchange[:2], Key: key[long:]}, n)
	}
	if grown := heldBytes() - before; grown > 10*long {
		t.Errorf("%d bytes are held for %d short texts", grown, 2*d.Len())
	}
	entries, _ := d.Publishes()
	for n, e := range entries {
		if e.Exchange != "ee" || e.Key != "k"+strconv.Itoa(n) {
			t.Errorf("%q, %q", e.Exchange, e.Key)
		}
	}
	runtime.KeepAlive(d)
}

// P20.2: of what was cleared nothing is held: no texts, no room, of neither sort.
func TestNothingIsHeldBehindClear(t *testing.T) {
	for _, note := range []func(d *draft.Draft){
		func(d *draft.Draft) {
			for n := range 40 {
				d.Publish(api.Entry{Exchange: text(n), Key: text(n)}, n)
			}
		},
		func(d *draft.Draft) {
			for n := range 1 << 19 {
				d.Publish(api.Entry{ID: n}, n)
			}
		},
		func(d *draft.Draft) {
			for n := range 1 << 20 {
				d.Ack(n, n)
			}
		},
	} {
		d := draft.New()
		before := heldBytes()
		note(d)
		if grown := heldBytes() - before; grown < 10*long {
			t.Errorf("%d bytes alone are held", grown)
		}
		d.Clear()
		d.Publish(api.Entry{ID: 1}, 0)
		d.Ack(1, 0)
		if grown := heldBytes() - before; grown > long {
			t.Errorf("%d bytes are held of what was cleared", grown)
		}
		runtime.KeepAlive(d)
	}
}

// heldBytes tells how many bytes can't be given back.
func heldBytes() int {
	var m runtime.MemStats
	runtime.GC()
	runtime.ReadMemStats(&m)
	return int(m.HeapAlloc)
}
