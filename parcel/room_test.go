package parcel_test

import (
	"runtime"
	"strings"
	"testing"

	"mailcoach/api"
	"mailcoach/parcel"
)

const long = 1 << 20

// P21.1: short texts that are cut from long ones don't hold these.
func TestTextsAreOfTheirOwn(t *testing.T) {
	before := heldBytes()
	var all []*parcel.Parcel
	for range 40 {
		text := strings.Repeat("e", long) + "k"
		h := newHand(t)
		h.begin(text[:2], text[long:], 0, api.OK)
		h.head(api.Content{Size: 3}, false, api.OK)
		h.body(text[long-1:], false, api.OK)
		all = append(all, h.Parcel)
	}
	if grown := heldBytes() - before; grown > 10*long {
		t.Errorf("%d bytes are held for some short texts", grown)
	}
	for _, p := range all {
		h := hand{t, p}
		h.body("!", true, api.OK)
		h.take(api.Entry{Exchange: "ee", Key: "k", Size: 3}, "ek!", 0)
	}
}

// P21.1: of what was taken or cleared nothing is held.
func TestNothingIsHeldBehindTheEnd(t *testing.T) {
	for _, end := range []func(p *parcel.Parcel){func(p *parcel.Parcel) { p.Take() }, (*parcel.Parcel).Clear} {
		before := heldBytes()
		h := newHand(t)
		text := strings.Repeat("t", 10*long)
		h.begin(text, text, 0, api.OK)
		h.head(api.Content{Size: len(text)}, false, api.OK)
		h.body(text, true, api.OK)
		text = ""
		if grown := heldBytes() - before; grown < 25*long {
			t.Errorf("%d bytes alone are held", grown)
		}
		end(h.Parcel)
		h.begin("e", "k", 0, api.OK)
		if grown := heldBytes() - before; grown > long {
			t.Errorf("%d bytes are held of what went", grown)
		}
		runtime.KeepAlive(h.Parcel)
	}
}

// P21.1: a body of very many pieces is as one of few, and what is refused isn't held.
func TestManyPieces(t *testing.T) {
	const most = 1 << 22
	h := newHand(t)
	h.begin("e", "k", 0, api.OK)
	h.head(api.Content{Size: most}, false, api.OK)
	all := letters(most)
	for at := range most {
		h.body(all[at:at+1], at == most-1, api.OK)
	}
	for range 100 {
		h.body(all, false, api.Unexpected)
	}
	h.take(api.Entry{Exchange: "e", Key: "k", Size: most}, all, 0)
}

// heldBytes tells how many bytes can't be given back.
func heldBytes() int {
	var m runtime.MemStats
	runtime.GC()
	runtime.ReadMemStats(&m)
	return int(m.HeapAlloc)
}
