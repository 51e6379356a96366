package exchange

import (
	"runtime"
	"strconv"
	"strings"
	"testing"

	"mailcoach/api"
)

// P13.1: of bindings that went, however they went, no key is kept.
func TestNoKeyIsKeptOfWhatWent(t *testing.T) {
	x := New()
	x.Declare("t", api.Topic, 0)
	ends := []func(i int){
		func(i int) { x.Unbind(api.Binding{Exchange: "t", Queue: "q", Key: "k." + strconv.Itoa(i)}) },
		func(int) { x.DropQueue("q") },
	}
	for _, end := range ends {
		for i := range api.MaxBinds {
			for range 2 {
				x.Bind(api.Binding{Exchange: "t", Queue: "q", Key: "k." + strconv.Itoa(i)})
			}
			wantKeys(t, x, i+1)
		}
		for i := range api.MaxBinds {
			end(i)
			wantKeys(t, x, len(x.Of("t")))
		}
		wantKeys(t, x, 0)
	}
}

// wantKeys is how many keys of the exchange t are kept.
func wantKeys(t *testing.T, x *Exchanges, want int) {
	t.Helper()
	k := x.find("t").keys
	if k.tree.Len() != want || len(k.ids) != want {
		t.Fatalf("%d keys, %d ids are kept; want %d", k.tree.Len(), len(k.ids), want)
	}
}

// P13.1: of exchanges that went nothing is kept, behind the others neither; only a
// topic's keys are kept for matching.
func TestNothingIsKeptOfWhatWent(t *testing.T) {
	x := New()
	for range 3 {
		for i := range api.MaxExch {
			x.Declare("e"+strconv.Itoa(i), 1+i%3, 0)
		}
		for i := range api.MaxExch {
			if p := x.all[0]; (p.keys != nil) != (p.kind == api.Topic) {
				t.Fatalf("keys of kind %d: %v", p.kind, p.keys)
			}
			x.Delete("e"+strconv.Itoa(i), 0)
			for _, p := range x.all[len(x.all):cap(x.all)] {
				if p != nil {
					t.Fatalf("behind %d exchanges: %q", len(x.all), p.name)
				}
			}
		}
	}
}

// P13.1: short texts that are cut from long ones don't hold these.
func TestTextsAreOfTheirOwn(t *testing.T) {
	const long = 1 << 20
	x := New()
	before := heldBytes()
	for i := range api.MaxExch {
		text := strings.Repeat("e", long) + "n" + strconv.Itoa(i)
		x.Declare(text[long:], api.Topic, 0)
		x.Bind(api.Binding{Exchange: text[long:], Queue: text[:1], Key: text[long+1:]})
	}
	if grown := heldBytes() - before; grown > api.MaxExch*long/4 {
		t.Errorf("%d bytes are held for %d short names", grown, len(x.all))
	}
	if to, _ := x.Route("n7", "7"); len(x.all) != api.MaxExch || len(to) != 1 {
		t.Errorf("%d exchanges, to %q", len(x.all), to)
	}
}

// heldBytes tells how many bytes can't be given back.
func heldBytes() int {
	var m runtime.MemStats
	runtime.GC()
	runtime.ReadMemStats(&m)
	return int(m.HeapAlloc)
}
