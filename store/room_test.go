package store

import (
	"fmt"
	"runtime"
	"runtime/debug"
	"strings"
	"testing"

	"mailcoach/api"
)

// P19.2: however deep dead messages drive out each other, it ends: Hops may be far below 0.
func TestDeepDead(t *testing.T) {
	defer debug.SetMaxStack(debug.SetMaxStack(16 << 20))
	s := New(5000)
	s.Queue("l", api.Options{MaxLen: 1, DeadKey: "l"}, 0)
	h, _ := s.Slab().Put("one")
	other, _ := s.Slab().Put("two")
	const hops = -100000
	s.Publish(api.Entry{Key: "l", Body: h, Hops: hops})
	s.Publish(api.Entry{Key: "l", Body: other, Hops: hops})
	// 2, 4, 6 .. come of the second one, 3, 5, 7 .. of the first one, until that is done.
	want := api.Entry{ID: 2 + 2*(api.MaxHops-hops), Body: other, Key: "l", Hops: api.MaxHops}
	if all := s.Ready("l"); len(all) != 1 || all[0] != want || s.Slab().Count(h) != 1 || s.Slab().Count(other) != 2 {
		t.Fatalf("%v; want %v", all, want)
	}
}

// P19.2: as many as there may be, each of them dead at once, go on to all queues.
func TestWideDead(t *testing.T) {
	s := New(api.MaxRoom)
	s.Exchange("f", "fanout", 0)
	for i := range api.MaxQueues {
		name := fmt.Sprint(i)
		s.Queue(name, api.Options{TTL: 1, Dead: "f"}, 0)
		s.Bind(api.Binding{Exchange: "f", Queue: name}, 0)
	}
	var own []int
	for range api.MaxReady {
		h, _ := s.Slab().Put("body")
		own = append(own, h)
		if ok, n := s.Publish(api.Entry{Exchange: "f", Body: h}); !ok || n != api.MaxQueues {
			t.Fatal(ok, n)
		}
	}
	ready := func() int {
		n := 0
		for _, name := range s.Names() {
			n += len(s.Ready(name))
		}
		return n
	}
	for range api.MaxHops {
		if s.Tick(); ready() != api.MaxQueues*api.MaxReady {
			t.Fatalf("at %d: %d ready", s.Now(), ready())
		}
		held := 0
		for _, h := range own {
			held += s.Slab().Count(h)
		}
		if held != ready()+len(own) {
			t.Fatalf("held %d times; %d ready", held, ready())
		}
	}
	for range api.MaxHops {
		s.Tick()
	}
	for _, h := range own {
		if ready() != 0 || s.Slab().Count(h) != 1 {
			t.Fatalf("%d ready, held %d times", ready(), s.Slab().Count(h))
		}
	}
}

// P19.1: of queues that went nothing is kept, behind the others neither.
func TestNothingIsKeptOfWhatWent(t *testing.T) {
	s := New(0)
	for round := range 40 {
		for i := range api.MaxQueues {
			s.Queue(fmt.Sprint(i), api.Options{Bits: i & 3}, 7)
			s.Consume(fmt.Sprint(i), api.Guest{Conn: 7})
		}
		if len(s.all) != api.MaxQueues {
			t.Fatalf("round %d: %d queues", round, len(s.all))
		}
		s.Leave(7)
		for i := range api.MaxQueues {
			s.Delete(fmt.Sprint(i), 0, 7)
		}
		for _, p := range s.all[:cap(s.all)] {
			if p != nil {
				t.Fatalf("%s is held", p.name)
			}
		}
	}
}

// P19.1, P19.2: short texts that are cut from long ones don't hold these.
func TestTextsAreOfTheirOwn(t *testing.T) {
	const long = 1 << 20
	s := New(0)
	before := heldBytes()
	for i := range api.MaxQueues {
		text := strings.Repeat("q", long) + fmt.Sprint("n", i)
		name := text[long:]
		s.Queue(name, api.Options{Dead: text[:5], DeadKey: text[:6]}, 0)
		s.Exchange(name, "topic", 0)
		s.Bind(api.Binding{Exchange: name, Queue: name, Key: name}, 0)
		s.Consume(name, api.Guest{Tag: name})
		s.Publish(api.Entry{Exchange: name, Key: name})
		if n := len(s.Ready(name)); n != 1 {
			t.Fatalf("%s: %d", name, n)
		}
	}
	if grown := heldBytes() - before; grown > api.MaxQueues*long/4 {
		t.Errorf("%d bytes are held", grown)
	}
	if n := len(s.Names()); n != api.MaxQueues {
		t.Errorf("%d queues", n)
	}
}

// P19.3: thousands of consumers go with their connection, in time.
func TestManyConsumers(t *testing.T) {
	s := New(0)
	s.Queue("q", api.Options{}, 0)
	const many = 6000
	for i := range many {
		s.Consume("q", api.Guest{Conn: i % 3, Tag: fmt.Sprint(i)})
	}
	s.Leave(1)
	left := s.Guests("q")
	if len(left) != many-many/3 || left[0].Tag != "0" || left[1].Tag != "2" || left[2].Tag != "3" {
		t.Fatalf("%d are left", len(left))
	}
	s.Leave(0)
	s.Leave(2)
	if n := len(s.Guests("q")); n != 0 {
		t.Fatalf("%d are left", n)
	}
}

// heldBytes tells how many bytes can't be given back.
func heldBytes() int {
	var m runtime.MemStats
	runtime.GC()
	runtime.ReadMemStats(&m)
	return int(m.HeapAlloc)
}
