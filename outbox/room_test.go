package outbox_test

import (
	"runtime"
	"strings"
	"testing"

	"mailcoach/outbox"
)

const long = 1 << 20

// P22.1: short texts that are cut from long ones don't hold these.
func TestTextsAreOfTheirOwn(t *testing.T) {
	before := heldBytes()
	h := newHand(t)
	for range 40 {
		text := strings.Repeat("e", long) + "k"
		h.Put(text[long:])
		h.Put(text[:2])
	}
	if grown := heldBytes() - before; grown > 10*long {
		t.Errorf("%d bytes are held for some short texts", grown)
	}
	h.Grant(3)
	h.says("kee", 117, 0, strings.Repeat("kee", 40))
}

// P22.1: what was answered is of its own: short answers don't hold what comes later, and
// no answer is held once nobody needs it.
func TestAnswersAreOfTheirOwn(t *testing.T) {
	before := heldBytes()
	var short []string
	for range 40 {
		h := newHand(t)
		h.Put(strings.Repeat("s", long))
		h.Grant(2)
		short = append(short, h.Gone())
		for range 3 {
			h.All()
		}
	}
	if grown := heldBytes() - before; grown > 10*long {
		t.Errorf("%d bytes are held for %d short answers", grown, len(short))
	}
	h := newHand(t)
	h.Put(strings.Repeat("s", 10*long))
	h.Grant(long)
	before = heldBytes()
	for range 10 {
		h.Gone()
		h.All()
	}
	if grown := heldBytes() - before; grown > long {
		t.Errorf("%d bytes are held of answers that nobody needs", grown)
	}
	runtime.KeepAlive(short)
	runtime.KeepAlive(h.Outbox)
}

// P22.1: of texts and grants however many there is no more held than their bytes need,
// and the last one takes no longer than the first one.
func TestManyPieces(t *testing.T) {
	const most = 1 << 22
	all := letters(most)
	before := heldBytes()
	h := newHand(t)
	for at := range most {
		h.Put(all[at : at+1])
		h.Put("")
		h.Grant(at % 2)
		if h.Waits() != (at+2)/2 || h.May() != 0 {
			t.Fatalf("behind %d bytes: %d, %d", at+1, h.Waits(), h.May())
		}
	}
	if grown := heldBytes() - before; grown > 2*most {
		t.Errorf("%d bytes are held for %d", grown, most)
	}
	h.says(all[:most/2], most/2, 0, all)
}

// P22.1: one with little in it is small.
func TestShortOnesAreSmall(t *testing.T) {
	before := heldBytes()
	var all []*outbox.Outbox
	for range 1000 {
		h := newHand(t)
		h.Put("x")
		h.Grant(1000000)
		h.Grant(1000000)
		h.Put("y")
		all = append(all, h.Outbox)
	}
	if grown := heldBytes() - before; grown > 4000*len(all) {
		t.Errorf("%d bytes are held for %d with two bytes in each", grown, len(all))
	}
	for _, o := range all {
		hand{t, o}.says("xy", 0, 999999, "xy")
	}
}

// heldBytes tells how many bytes can't be given back.
func heldBytes() int {
	var m runtime.MemStats
	runtime.GC()
	runtime.ReadMemStats(&m)
	return int(m.HeapAlloc)
}
