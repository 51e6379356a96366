package parcel_test

import (
	"math"
	"strings"
	"testing"

	"mailcoach/api"
	"mailcoach/parcel"
)

// edges are ints at which something may turn.
var edges = []int{math.MinInt, math.MinInt + 1, -1 << 32, -1000000, -256, -2, -1, 0, 1, 2, 3, 199, 200, 201, 255, 256, 10000, 10001, 1 << 31, 1 << 32, 1<<32 + 1, math.MaxInt - 1, math.MaxInt}

// texts are names and keys, right ones and wrong ones.
var texts = []string{"", "a", "logs", "a.b.#", "\xff\x00", strings.Repeat("n", 12), strings.Repeat("n", 13), strings.Repeat("k", 40), strings.Repeat("k", 41), strings.Repeat("long", 1000)}

// dice is a row of numbers that look like any.
type dice uint64

// below is the next number, from 0 below n.
func (d *dice) below(n int) int {
	*d = *d*6364136223846793005 + 1442695040888963407
	return int(*d>>33) % n
}

// letters are n bytes, of which none is as the one ahead of it.
func letters(n int) string {
	b := make([]byte, n)
	for i := range b {
		b[i] = byte('a' + i%23)
	}
	return string(b)
}

// hand is a parcel of which each answer is held against what is wanted.
type hand struct {
	*testing.T
	*parcel.Parcel
}

func newHand(t *testing.T) hand { return hand{t, parcel.New()} }

func (h hand) begin(exchange, key string, bits int, want api.Errno) {
	h.Helper()
	if e := h.Begin(exchange, key, bits); e != want {
		h.Fatalf("Begin(%.50q, %.50q, %d): %v; want %v", exchange, key, bits, e, want)
	}
}

func (h hand) head(c api.Content, whole bool, want api.Errno) {
	h.Helper()
	if ok, e := h.Head(c); ok != whole || e != want {
		h.Fatalf("Head(%v): %v, %v; want %v, %v", c, ok, e, whole, want)
	}
}

func (h hand) body(b string, whole bool, want api.Errno) {
	h.Helper()
	if ok, e := h.Body(b); ok != whole || e != want {
		h.Fatalf("Body(%.50q): %v, %v; want %v, %v", b, ok, e, whole, want)
	}
}

func (h hand) open(want bool) {
	h.Helper()
	if h.Open() != want {
		h.Fatalf("Open: %v; want %v", !want, want)
	}
}

// take: the whole of it, and nothing is open any more.
func (h hand) take(want api.Entry, wantBytes string, wantBits int) {
	h.Helper()
	h.open(true)
	if e, b, bits := h.Take(); e != want || b != wantBytes || bits != wantBits {
		h.Fatalf("Take: %.300v, %.50q, %d; want %.300v, %.50q, %d", e, b, bits, want, wantBytes, wantBits)
	}
	h.fresh()
}

// none: nothing is to be taken, and asking for it lets nothing go.
func (h hand) none() {
	h.Helper()
	was := h.Open()
	for range 2 {
		if e, b, bits := h.Take(); e != (api.Entry{}) || b != "" || bits != 0 {
			h.Fatalf("Take of what isn't complete: %.300v, %.50q, %d", e, b, bits)
		}
	}
	h.open(was)
}

// fresh: nothing has begun.
func (h hand) fresh() {
	h.Helper()
	h.open(false)
	h.none()
	h.head(api.Content{}, false, api.Unexpected)
	h.head(api.Content{Size: 1}, false, api.Unexpected)
	h.body("", false, api.Unexpected)
	h.body("x", false, api.Unexpected)
	h.open(false)
}

// The parts of the parcel that the stages below are of.
var (
	threeHead  = api.Content{Size: 3, Prio: 200, TTL: 77}
	threeEntry = api.Entry{Exchange: "ex", Key: "key", Size: 3, Prio: 200, TTL: 77}
)

// stages: how far a parcel of three bytes may have come.
var stages = []struct {
	name  string
	comes string // what should come: a method, a head, bytes
	left  string // the bytes that lack
	bring func(p *parcel.Parcel)
}{
	{"new", "method", "abc", func(p *parcel.Parcel) {}},
	{"taken", "method", "abc", func(p *parcel.Parcel) {
		p.Begin("was", "taken", 3)
		p.Head(api.Content{Size: 2, Prio: 2, TTL: 2})
		p.Body("xy")
		p.Take()
	}},
	{"cleared ahead of all", "method", "abc", func(p *parcel.Parcel) { p.Clear() }},
	{"cleared behind a method", "method", "abc", func(p *parcel.Parcel) {
		p.Begin("was", "cleared", 3)
		p.Clear()
	}},
	{"cleared behind a head", "method", "abc", func(p *parcel.Parcel) {
		p.Begin("was", "cleared", 3)
		p.Head(api.Content{Size: 2, Prio: 2, TTL: 2})
		p.Clear()
	}},
	{"cleared behind a byte", "method", "abc", func(p *parcel.Parcel) {
		p.Begin("was", "cleared", 3)
		p.Head(api.Content{Size: 2, Prio: 2, TTL: 2})
		p.Body("x")
		p.Clear()
	}},
	{"cleared behind all", "method", "abc", func(p *parcel.Parcel) {
		p.Begin("was", "cleared", 3)
		p.Head(api.Content{Size: 2, Prio: 2, TTL: 2})
		p.Body("xy")
		p.Clear()
	}},
	{"begun", "head", "abc", func(p *parcel.Parcel) { p.Begin("ex", "key", 9) }},
	{"a head came", "bytes", "abc", func(p *parcel.Parcel) {
		p.Begin("ex", "key", 9)
		p.Head(threeHead)
	}},
	{"no bytes came", "bytes", "abc", func(p *parcel.Parcel) {
		p.Begin("ex", "key", 9)
		p.Head(threeHead)
		p.Body("")
	}},
	{"a byte came", "bytes", "bc", func(p *parcel.Parcel) {
		p.Begin("ex", "key", 9)
		p.Head(threeHead)
		p.Body("a")
	}},
	{"a byte lacks", "bytes", "c", func(p *parcel.Parcel) {
		p.Begin("ex", "key", 9)
		p.Head(threeHead)
		p.Body("ab")
	}},
	{"complete", "", "", func(p *parcel.Parcel) {
		p.Begin("ex", "key", 9)
		p.Head(threeHead)
		p.Body("ab")
		p.Body("c")
	}},
}

// finish brings what lacks, and takes it: it is the parcel of three bytes.
func (h hand) finish(comes, left string) {
	h.Helper()
	if comes == "method" {
		h.begin("ex", "key", 9, api.OK)
	}
	if comes == "method" || comes == "head" {
		h.open(true)
		h.none()
		h.head(threeHead, false, api.OK)
	}
	if left != "" {
		h.open(true)
		h.none()
		h.body(left, true, api.OK)
	}
	h.take(threeEntry, "abc", 9)
}

// P21.1: at each stage: what should not come is Unexpected, whatever it is, and changes
// nothing; Take of what isn't complete neither.
func TestWhatShouldNotCome(t *testing.T) {
	for _, s := range stages {
		t.Run(s.name, func(t *testing.T) {
			h := newHand(t)
			s.bring(h.Parcel)
			h.open(s.comes != "method")
			if s.comes != "" {
				h.none()
			}
			for at, n := range edges {
				if s.comes != "method" {
					h.begin(texts[at%len(texts)], texts[n&7], n, api.Unexpected)
				}
				if s.comes != "head" {
					h.head(api.Content{Size: n}, false, api.Unexpected)
					h.head(api.Content{Size: 3, Prio: n, TTL: n}, false, api.Unexpected)
				}
				if s.comes != "bytes" {
					h.body(texts[at%len(texts)], false, api.Unexpected)
				}
				h.open(s.comes != "method")
			}
			h.finish(s.comes, s.left)
		})
	}
}

// P21.1: Clear, at each stage: nothing is open any more, and what begins behind it is as
// in a new one.
func TestClear(t *testing.T) {
	for _, s := range stages {
		t.Run(s.name, func(t *testing.T) {
			for times := range 3 {
				h := newHand(t)
				s.bring(h.Parcel)
				for range times + 1 {
					h.Clear()
					h.fresh()
				}
				h.begin("", "", 0, api.OK)
				h.head(api.Content{}, true, api.OK)
				h.take(api.Entry{}, "", 0)
				s.bring(h.Parcel)
				h.Clear()
				h.finish("method", "abc")
			}
		})
	}
}

// P21.1: nothing has begun in a new parcel, nor in one that nobody made; each call may be
// the first one.
func TestNew(t *testing.T) {
	for _, made := range []func() *parcel.Parcel{parcel.New, func() *parcel.Parcel { return &parcel.Parcel{} }} {
		h := hand{t, made()}
		h.fresh()
		h.finish("method", "abc")
		hand{t, made()}.open(false)
		hand{t, made()}.none()
		hand{t, made()}.head(api.Content{Size: 1}, false, api.Unexpected)
		hand{t, made()}.head(api.Content{}, false, api.Unexpected)
		hand{t, made()}.body("", false, api.Unexpected)
		hand{t, made()}.body("x", false, api.Unexpected)
		hand{t, made()}.begin("x", "y", 1, api.OK)
		h = hand{t, made()}
		h.Clear()
		h.fresh()
	}
}

// P21.1, P21.2: whatever a method says is taken as it was said.
func TestAnyMethod(t *testing.T) {
	h := newHand(t)
	for _, exchange := range texts {
		for _, key := range texts {
			for _, bits := range edges {
				h.begin(exchange, key, bits, api.OK)
				h.open(true)
				h.head(api.Content{Size: 1}, false, api.OK)
				h.body("x", true, api.OK)
				h.take(api.Entry{Exchange: exchange, Key: key, Size: 1}, "x", bits)
			}
		}
	}
}

// P21.1, P21.2: whatever a head says of Prio and TTL is taken as it was said.
func TestAnyHead(t *testing.T) {
	h := newHand(t)
	for _, prio := range edges {
		for _, ttl := range edges {
			h.begin("a", "b", 1, api.OK)
			h.head(api.Content{Size: 2, Prio: prio, TTL: ttl}, false, api.OK)
			h.body("xy", true, api.OK)
			h.take(api.Entry{Exchange: "a", Key: "b", Size: 2, Prio: prio, TTL: ttl}, "xy", 1)
			h.begin("a", "b", 1, api.OK)
			h.head(api.Content{Prio: prio, TTL: ttl}, true, api.OK)
			h.take(api.Entry{Exchange: "a", Key: "b", Prio: prio, TTL: ttl}, "", 1)
		}
	}
}

// P21.1: a Size that no bytes come up to is never complete: of one below 0 no bytes may
// come, not even none; of a great one no room is made ahead.
func TestNeverComplete(t *testing.T) {
	for _, size := range edges {
		if size >= 0 && size < 1<<31 {
			continue
		}
		h := newHand(t)
		h.begin("a", "b", 1, api.OK)
		h.head(api.Content{Size: size}, false, api.OK)
		for _, b := range texts {
			if size < 0 {
				h.body(b, false, api.Unexpected)
			} else {
				h.body(b, false, api.OK)
			}
			h.none()
			h.open(true)
			h.head(api.Content{}, false, api.Unexpected)
			h.begin("", "", 0, api.Unexpected)
		}
		h.Clear()
		h.finish("method", "abc")
	}
}

// P21.1: bodies of each length, in pieces of each length: complete with the last byte, not
// ahead of it; one byte too many is refused at each place, and what should come goes on.
func TestBodiesInPieces(t *testing.T) {
	h := newHand(t)
	for size := range 60 {
		all := letters(size)
		for piece := 1; piece <= size+1; piece++ {
			h.begin("ex", "key", piece, api.OK)
			h.head(api.Content{Size: size, Prio: piece}, size == 0, api.OK)
			left := all
			for left != "" {
				h.none()
				h.body("", false, api.OK)
				h.body(left+"!", false, api.Unexpected)
				h.body(left+all+letters(300), false, api.Unexpected)
				n := min(piece, len(left))
				h.body(left[:n], n == len(left), api.OK)
				left = left[n:]
			}
			h.body("", false, api.Unexpected)
			h.body("!", false, api.Unexpected)
			h.take(api.Entry{Exchange: "ex", Key: "key", Size: size, Prio: piece}, all, piece)
		}
	}
}

// P21.1: at the limit of a body, at one past it and far beyond: Size alone counts.
func TestGreatBodies(t *testing.T) {
	h := newHand(t)
	for _, size := range []int{199, 200, 201, 255, 256, 4096, 65536, 1<<20 + 1} {
		all := letters(size)
		for _, cut := range []int{0, 1, size / 2, size - 1, size} {
			h.begin("e", "k", 0, api.OK)
			h.head(api.Content{Size: size}, false, api.OK)
			h.body(all+"!", false, api.Unexpected)
			h.body(all[:cut], cut == size, api.OK)
			if cut < size {
				h.body(all[cut:]+"!", false, api.Unexpected)
				h.none()
				h.body(all[cut:], true, api.OK)
			}
			h.take(api.Entry{Exchange: "e", Key: "k", Size: size}, all, 0)
		}
	}
}

// P21.1, P21.2: all bytes are as good as any other one.
func TestAllBytes(t *testing.T) {
	h := newHand(t)
	var all []byte
	for n := range 256 {
		all = append(all, byte(n))
	}
	h.begin("e", "k", 0, api.OK)
	h.head(api.Content{Size: 256}, false, api.OK)
	for n := range all {
		h.body(string(all[n:n+1]), n == 255, api.OK)
	}
	h.take(api.Entry{Exchange: "e", Key: "k", Size: 256}, string(all), 0)
}

// P21.2: method, head, body: one behind the other goes through whole, and nothing of one
// is in the next one.
func TestOneBehindTheOther(t *testing.T) {
	h := newHand(t)
	for n := range 2000 {
		size := n * 7 % 11
		c := api.Content{Size: size, Prio: n * 5 % 3, TTL: n * 3 % 4}
		exchange, key := letters(n%5), letters(n%3)
		h.begin(exchange, key, n%4, api.OK)
		h.head(c, size == 0, api.OK)
		if size > 0 {
			h.body(letters(size), true, api.OK)
		}
		h.take(api.Entry{Exchange: exchange, Key: key, Size: size, Prio: c.Prio, TTL: c.TTL}, letters(size), n%4)
	}
}

// P21.1: parcels don't know of other ones.
func TestParcelsAreApart(t *testing.T) {
	for _, s := range stages {
		for _, other := range stages {
			a, b := newHand(t), newHand(t)
			s.bring(a.Parcel)
			other.bring(b.Parcel)
			a.open(s.comes != "method")
			b.open(other.comes != "method")
			a.finish(s.comes, s.left)
			b.open(other.comes != "method")
			a.Clear()
			b.finish(other.comes, other.left)
		}
	}
}

// P21.1: what was taken isn't touched by what comes later.
func TestWhatWasTakenStays(t *testing.T) {
	h := newHand(t)
	var took []string
	for n := range 200 {
		h.begin("e", "k", 0, api.OK)
		h.head(api.Content{Size: 2}, false, api.OK)
		h.body(string([]byte{byte(n)}), false, api.OK)
		h.body(string([]byte{byte(n + 1)}), true, api.OK)
		_, b, _ := h.Take()
		took = append(took, b)
	}
	for n, b := range took {
		if b != string([]byte{byte(n), byte(n + 1)}) {
			t.Fatalf("the one that was taken as %d: %q", n, b)
		}
	}
}
