package binding

import (
	"runtime"
	"strconv"
	"strings"
	"testing"

	"mailcoach/api"
)

// P11.1: of what went nothing is kept, in the room behind the rows neither.
func TestNothingIsKeptOfWhatWent(t *testing.T) {
	x := New()
	ends := []func(i int){
		func(i int) { x.Drop(api.Binding{Exchange: "e", Queue: "q", Key: strconv.Itoa(i)}) },
		func(int) { x.DropQueue("q") },
		func(int) { x.DropExchange("e") },
	}
	for _, end := range ends {
		for i := range api.MaxBinds {
			x.Add(api.Binding{Exchange: "e", Queue: "q", Key: strconv.Itoa(i)})
		}
		for i := range api.MaxBinds {
			end(i)
			for _, b := range x.rows[len(x.rows):cap(x.rows)] {
				if b != (api.Binding{}) {
					t.Fatalf("behind %d rows: %q", len(x.rows), b)
				}
			}
		}
		if x.Len() != 0 {
			t.Fatalf("%d are left", x.Len())
		}
	}
}

// P11.1: short texts that are cut from long ones don't hold these.
func TestTextsAreOfTheirOwn(t *testing.T) {
	const long = 1 << 20
	x := New()
	before := heldBytes()
	for i := range api.MaxBinds {
		text := strings.Repeat("e", long) + "q" + strconv.Itoa(i)
		x.Add(api.Binding{Exchange: text[:1], Queue: text[long : long+1], Key: text[long+1:]})
	}
	if grown := heldBytes() - before; grown > api.MaxBinds*long/4 {
		t.Errorf("%d bytes are held for %d short texts", grown, 3*x.Len())
	}
	if x.Len() != api.MaxBinds || x.Keyed("e", "7")[0] != "q" {
		t.Errorf("%d bindings", x.Len())
	}
}

// heldBytes tells how many bytes can't be given back.
func heldBytes() int {
	var m runtime.MemStats
	runtime.GC()
	runtime.ReadMemStats(&m)
	return int(m.HeapAlloc)
}
