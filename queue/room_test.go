package queue_test

import (
	"runtime"
	"strconv"
	"strings"
	"testing"

	"mailcoach/api"
	"mailcoach/queue"
)

// P16.1: what went isn't held any more, however it went, nor are the long texts from which
// short ones were cut.
func TestNothingMoreIsHeld(t *testing.T) {
	const long = 1 << 20
	text := func(n int) string { return strings.Repeat("e", long) + "k" + strconv.Itoa(n) }
	before := heldBytes()
	var all []*queue.Queue
	for n := range 40 {
		dead, key := text(n), text(n)
		q := queue.New(api.Options{MaxLen: 1, Dead: dead[:1], DeadKey: key[long:]})
		all = append(all, q)
		q.Put(api.Entry{ID: 1, Key: text(n)}, 0)
		switch n % 4 {
		case 0:
			q.Take()
		case 1:
			q.Purge()
		case 2:
			q.Put(api.Entry{ID: 2}, 0)
		case 3:
			q.Purge()
			q.Back(api.Entry{ID: 3, Key: text(n), Until: 1})
			q.Gone(1)
		}
	}
	if grown := heldBytes() - before; grown > 10*long {
		t.Errorf("%d bytes are held", grown)
	}
	for n, q := range all {
		if o := q.Options(); o.Dead != "e" || o.DeadKey != "k"+strconv.Itoa(n) {
			t.Errorf("%q, %q", o.Dead, o.DeadKey)
		}
	}
}

// heldBytes tells how many bytes can't be given back.
func heldBytes() int {
	var m runtime.MemStats
	runtime.GC()
	runtime.ReadMemStats(&m)
	return int(m.HeapAlloc)
}
