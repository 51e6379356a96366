package slab_test

import (
	"math"
	"strings"
	"testing"

	"mailcoach/api"
	"mailcoach/slab"
)

func put(t *testing.T, s *slab.Slab, b string) int {
	t.Helper()
	h, e := s.Put(b)
	if e != api.OK || h <= 0 {
		t.Fatalf("Put of %d bytes: %d, %v", len(b), h, e)
	}
	return h
}

func wantState(t *testing.T, s *slab.Slab, free, live int) {
	t.Helper()
	if s.Free() != free || s.Live() != live {
		t.Fatalf("%d free, %d live; want %d, %d", s.Free(), s.Live(), free, live)
	}
}

func wantBody(t *testing.T, s *slab.Slab, h int, b string, count int) {
	t.Helper()
	got, e := s.Get(h)
	if got != b || e != api.OK || s.Count(h) != count {
		t.Fatalf("handle %d: %q, %v, held %d; want %q, held %d", h, got, e, s.Count(h), b, count)
	}
}

func wantStale(t *testing.T, s *slab.Slab, h int) {
	t.Helper()
	if e := s.Hold(h); e != api.ErrStale {
		t.Fatalf("Hold(%d): %v", h, e)
	}
	if last, e := s.Drop(h); last || e != api.ErrStale {
		t.Fatalf("Drop(%d): %v, %v", h, last, e)
	}
	if b, e := s.Get(h); b != "" || e != api.ErrStale {
		t.Fatalf("Get(%d): %q, %v", h, b, e)
	}
	if n := s.Count(h); n != 0 {
		t.Fatalf("Count(%d): %d", h, n)
	}
}

// text gives n bytes, unlike at each place, that differ with seed; some aren't
// UTF-8, some are zero.
func text(n, seed int) string {
	b := make([]byte, n)
	for i := range b {
		b[i] = byte(i*7 + seed*31)
	}
	return string(b)
}

// P1.1: Class.
func TestClass(t *testing.T) {
	for n := -300; n <= 600; n++ {
		want := 0
		for _, c := range []int{256, 128, 64, 32} {
			if n > 0 && n <= c {
				want = c
			}
		}
		if got := slab.Class(n); got != want {
			t.Errorf("Class(%d): %d, want %d", n, got, want)
		}
	}
	for _, n := range []int{math.MinInt, math.MinInt + 1, math.MaxInt - 1, math.MaxInt, math.MaxInt32, 1 << 40} {
		if got := slab.Class(n); got != 0 {
			t.Errorf("Class(%d): %d", n, got)
		}
	}
}

// P1.1: New holds room from 0 to MaxRoom.
func TestRoomIsHeld(t *testing.T) {
	for room, want := range map[int]int{
		math.MinInt: 0, -1: 0, 0: 0, 1: 1, 31: 31, 32: 32, 1000: 1000,
		api.MaxRoom - 1: api.MaxRoom - 1, api.MaxRoom: api.MaxRoom,
		api.MaxRoom + 1: api.MaxRoom, math.MaxInt: api.MaxRoom,
	} {
		wantState(t, slab.New(room), want, 0)
	}
}

// P1.1: Put of every size takes its Class, and Get gives the bytes.
func TestPutEverySize(t *testing.T) {
	for n := 0; n <= 256; n++ {
		s := slab.New(1000)
		h := put(t, s, text(n, n))
		wantState(t, s, 1000-slab.Class(n), 1)
		wantBody(t, s, h, text(n, n), 1)
	}
}

// P1.1: the example: Put of 33 bytes: 64 less are free.
func TestExample(t *testing.T) {
	s := slab.New(100)
	put(t, s, strings.Repeat("x", 33))
	wantState(t, s, 36, 1)
}

// P1.1: ErrFull comes when the Class is more than what is free, not when it is
// as much.
func TestFullOfBytes(t *testing.T) {
	for n := 1; n <= 256; n++ {
		class := slab.Class(n)
		s := slab.New(class - 1)
		if h, e := s.Put(text(n, 1)); h != 0 || e != api.ErrFull {
			t.Fatalf("%d bytes into %d: %d, %v", n, class-1, h, e)
		}
		wantState(t, s, class-1, 0)
		s = slab.New(class)
		h := put(t, s, text(n, 1))
		wantState(t, s, 0, 1)
		if h, e := s.Put("x"); h != 0 || e != api.ErrFull {
			t.Fatalf("a byte into none: %d, %v", h, e)
		}
		wantState(t, s, 0, 1)
		wantBody(t, s, h, text(n, 1), 1)
		wantState(t, s, 0, 1)
	}
}

// P1.1: an empty body needs no room, but it is there.
func TestEmptyBody(t *testing.T) {
	s := slab.New(0)
	a, b := put(t, s, ""), put(t, s, "")
	if a == b {
		t.Fatalf("one handle twice: %d", a)
	}
	wantState(t, s, 0, 2)
	wantBody(t, s, a, "", 1)
	if last, e := s.Drop(a); !last || e != api.OK {
		t.Fatalf("Drop: %v, %v", last, e)
	}
	wantState(t, s, 0, 1)
	wantStale(t, s, a)
	wantBody(t, s, b, "", 1)
}

// P1.1: ErrLarge comes above 256 bytes, also where ErrFull applies too.
func TestLarge(t *testing.T) {
	full := slab.New(api.MaxRoom)
	for range api.MaxHandle {
		put(t, full, "")
	}
	for _, s := range []*slab.Slab{slab.New(api.MaxRoom), slab.New(0), full} {
		free, live := s.Free(), s.Live()
		for _, n := range []int{257, 258, 288, 512, 100000, 1 << 20} {
			if h, e := s.Put(strings.Repeat("x", n)); h != 0 || e != api.ErrLarge {
				t.Fatalf("%d bytes: %d, %v", n, h, e)
			}
		}
		wantState(t, s, free, live)
	}
}

// P1.1: MaxHandle bodies may be there, whatever their size, and no more.
func TestFullOfHandles(t *testing.T) {
	s := slab.New(api.MaxRoom)
	var handles []int
	had := map[int]int{}
	for i := range api.MaxHandle {
		h := put(t, s, text(i%97, i))
		had[h]++
		handles = append(handles, h)
	}
	if len(had) != api.MaxHandle {
		t.Fatalf("%d unlike handles", len(had))
	}
	free := s.Free()
	for _, b := range []string{"", "x", text(256, 0)} {
		if h, e := s.Put(b); h != 0 || e != api.ErrFull {
			t.Fatalf("one more: %d, %v", h, e)
		}
	}
	wantState(t, s, free, api.MaxHandle)
	for i, h := range handles {
		wantBody(t, s, h, text(i%97, i), 1)
	}
	s.Hold(handles[9])
	s.Drop(handles[9])
	if _, e := s.Put(""); e != api.ErrFull {
		t.Fatalf("one that is held still counts: %v", e)
	}
	s.Drop(handles[9])
	if h := put(t, s, ""); had[h] != 0 {
		t.Fatalf("handle %d came twice", h)
	}
	if _, e := s.Put(""); e != api.ErrFull {
		t.Fatalf("full again: %v", e)
	}
}

// P1.1: Hold and Drop count each body for itself; the last Drop says so.
func TestHoldAndDrop(t *testing.T) {
	s := slab.New(500)
	a, b := put(t, s, text(40, 1)), put(t, s, text(40, 1))
	for i := range 1000 {
		if e := s.Hold(a); e != api.OK {
			t.Fatalf("Hold: %v", e)
		}
		wantBody(t, s, a, text(40, 1), i+2)
	}
	wantState(t, s, 500-128, 2)
	wantBody(t, s, b, text(40, 1), 1)
	for i := range 1000 {
		if last, e := s.Drop(a); last || e != api.OK {
			t.Fatalf("Drop: %v, %v", last, e)
		}
		wantBody(t, s, a, text(40, 1), 1000-i)
		wantState(t, s, 500-128, 2)
	}
	if last, e := s.Drop(a); !last || e != api.OK {
		t.Fatalf("the last Drop: %v, %v", last, e)
	}
	wantState(t, s, 500-64, 1)
	wantStale(t, s, a)
	wantBody(t, s, b, text(40, 1), 1)
}

// P1.1: what isn't there, was dropped or never was, is stale, and asking for it
// changes nothing.
func TestStale(t *testing.T) {
	never := []int{math.MinInt, -400, -2, -1, 0, 50, 401, 1 << 32, math.MaxInt}
	for _, h := range never {
		wantStale(t, slab.New(0), h)
	}
	s := slab.New(300)
	a, b, c := put(t, s, text(33, 1)), put(t, s, text(10, 2)), put(t, s, "")
	s.Drop(a)
	s.Drop(c)
	for _, h := range append(never, a, c, -b) {
		if h != b {
			wantStale(t, s, h)
		}
	}
	wantState(t, s, 300-32, 1)
	wantBody(t, s, b, text(10, 2), 1)
	d := put(t, s, text(33, 3))
	wantStale(t, s, a)
	wantStale(t, s, c)
	wantBody(t, s, d, text(33, 3), 1)
}

// P1.1: no handle comes twice, also when the room is used again and again.
func TestHandlesAreNew(t *testing.T) {
	s := slab.New(64)
	had := map[int]int{}
	for i := range 3 * api.MaxHandle {
		h := put(t, s, text(i%65, i))
		if had[h]++; had[h] > 1 {
			t.Fatalf("handle %d came twice", h)
		}
		if last, e := s.Drop(h); !last || e != api.OK {
			t.Fatalf("Drop: %v, %v", last, e)
		}
		wantState(t, s, 64, 0)
	}
	for h := range had {
		wantStale(t, s, h)
	}
}

// P1.1: one slab doesn't know of another one.
func TestSlabsAreApart(t *testing.T) {
	a, b := slab.New(100), slab.New(200)
	h := put(t, a, "here")
	wantState(t, b, 200, 0)
	wantStale(t, b, h)
	if got := put(t, b, "there"); got != put(t, slab.New(50), "else") {
		t.Fatalf("the first handle of a slab hangs on other slabs: %d", got)
	}
	wantBody(t, a, h, "here", 1)
}

// P1.2: room that came free in small pieces far apart is room for a large body:
// nothing but Free() says whether one fits.
func TestScatteredRoomIsRoom(t *testing.T) {
	s := slab.New(16*32 + 31)
	var handles []int
	for i := range 16 {
		handles = append(handles, put(t, s, text(32, i)))
	}
	wantState(t, s, 31, 16)
	for i := 0; i < 16; i += 2 {
		s.Drop(handles[i])
	}
	wantState(t, s, 256+31, 8)
	h := put(t, s, text(256, 99))
	wantState(t, s, 31, 9)
	wantBody(t, s, h, text(256, 99), 1)
	for i := 1; i < 16; i += 2 {
		wantBody(t, s, handles[i], text(32, i), 1)
		s.Drop(handles[i])
	}
	wantBody(t, s, h, text(256, 99), 1)
	s.Drop(h)
	wantState(t, s, 16*32+31, 0)
}

// P1.2: a body shows nothing of what lay in its room before.
func TestRoomUsedAgain(t *testing.T) {
	s := slab.New(256)
	for n := 256; n >= 0; n-- {
		h := put(t, s, text(256, n))
		s.Drop(h)
		h = put(t, s, text(n, n+1))
		wantBody(t, s, h, text(n, n+1), 1)
		s.Drop(h)
		wantState(t, s, 256, 0)
	}
}

// P1.2: whatever is done, what is free and the classes of what is held are the
// whole room: held against a plain account of bodies.
func TestAllThereIs(t *testing.T) {
	type held struct {
		b string
		n int
	}
	const room = 9000
	s := slab.New(room)
	account := map[int]held{}
	var handles []int // every one that was ever given
	free := room
	seed := 1
	next := func(n int) int {
		seed = (seed*1103515245 + 12345) % (1 << 31)
		return seed / 65536 % n
	}
	for step := range 40000 {
		act := next(10)
		if step/2000%2 == 1 && act < 6 { // times of more drops than puts
			act = 9
		}
		if act < 5 || len(handles) == 0 {
			b := text(next(270), step)
			h, e := s.Put(b)
			switch {
			case len(b) > 256:
				if h != 0 || e != api.ErrLarge {
					t.Fatalf("step %d: %d, %v", step, h, e)
				}
			case slab.Class(len(b)) > free || len(account) == api.MaxHandle:
				if h != 0 || e != api.ErrFull {
					t.Fatalf("step %d: %d, %v", step, h, e)
				}
			default:
				if e != api.OK || h <= 0 || account[h].n != 0 {
					t.Fatalf("step %d: %d, %v", step, h, e)
				}
				account[h] = held{b, 1}
				handles = append(handles, h)
				free -= slab.Class(len(b))
			}
		} else {
			h := handles[len(handles)-1-next(min(len(handles), 120))]
			was := account[h]
			if was.n == 0 {
				wantStale(t, s, h)
			} else if act < 7 {
				if e := s.Hold(h); e != api.OK {
					t.Fatalf("step %d: Hold: %v", step, e)
				}
				account[h] = held{was.b, was.n + 1}
			} else {
				last, e := s.Drop(h)
				if last != (was.n == 1) || e != api.OK {
					t.Fatalf("step %d: Drop: %v, %v", step, last, e)
				}
				account[h] = held{was.b, was.n - 1}
				if last {
					delete(account, h)
					free += slab.Class(len(was.b))
				}
			}
		}
		wantState(t, s, free, len(account))
		if step%500 == 0 {
			for h, x := range account {
				wantBody(t, s, h, x.b, x.n)
			}
		}
	}
	for h, x := range account {
		for range x.n {
			s.Drop(h)
		}
	}
	wantState(t, s, room, 0)
}
