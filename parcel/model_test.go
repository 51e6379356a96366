package parcel_test

import (
	"testing"

	"mailcoach/api"
)

// plain is a parcel by the chapter's words.
type plain struct {
	begun, headed bool
	exchange, key string
	bits          int
	told          api.Content
	bytes         string
}

func (m *plain) complete() bool { return m.headed && len(m.bytes) == m.told.Size }

func (m *plain) begin(exchange, key string, bits int) api.Errno {
	if m.begun {
		return api.Unexpected
	}
	*m = plain{begun: true, exchange: exchange, key: key, bits: bits}
	return api.OK
}

func (m *plain) head(c api.Content) (bool, api.Errno) {
	if !m.begun || m.headed {
		return false, api.Unexpected
	}
	m.headed, m.told = true, c
	return c.Size == 0, api.OK
}

func (m *plain) body(b string) (bool, api.Errno) {
	if !m.headed || m.complete() || len(m.bytes+b) > m.told.Size {
		return false, api.Unexpected
	}
	m.bytes += b
	return m.complete(), api.OK
}

func (m *plain) take() (api.Entry, string, int) {
	if !m.complete() {
		return api.Entry{}, "", 0
	}
	was := *m
	*m = plain{}
	return api.Entry{Exchange: was.exchange, Key: was.key, Size: was.told.Size, Prio: was.told.Prio, TTL: was.told.TTL}, was.bytes, was.bits
}

// both does the same with a parcel and with a plain one.
type both struct {
	hand
	want plain
}

func newBoth(t *testing.T) *both { return &both{hand: newHand(t)} }

func (b *both) begin(exchange, key string, bits int) bool {
	b.Helper()
	e := b.want.begin(exchange, key, bits)
	b.hand.begin(exchange, key, bits, e)
	return e == api.OK
}

func (b *both) head(c api.Content) bool {
	b.Helper()
	whole, e := b.want.head(c)
	b.hand.head(c, whole, e)
	return e == api.OK
}

func (b *both) body(s string) bool {
	b.Helper()
	whole, e := b.want.body(s)
	b.hand.body(s, whole, e)
	return e == api.OK
}

func (b *both) take() bool {
	b.Helper()
	whole := b.want.complete()
	want, wantBytes, wantBits := b.want.take()
	if e, s, bits := b.Take(); e != want || s != wantBytes || bits != wantBits {
		b.Fatalf("Take: %v, %q, %d; want %v, %q, %d", e, s, bits, want, wantBytes, wantBits)
	}
	return whole
}

func (b *both) clear() {
	b.Clear()
	b.want = plain{}
}

// calls: each of them is tried behind each of them.
var calls = []func(b *both){
	func(b *both) { b.begin("ex", "key", 9) },
	func(b *both) { b.begin("", "k", 0) },
	func(b *both) { b.head(api.Content{Prio: 7, TTL: 8}) },
	func(b *both) { b.head(api.Content{Size: 1, TTL: 5}) },
	func(b *both) { b.head(api.Content{Size: 2, Prio: 4}) },
	func(b *both) { b.body("") },
	func(b *both) { b.body("x") },
	func(b *both) { b.body("yz") },
	func(b *both) { b.take() },
	func(b *both) { b.clear() },
}

// P21.1, P21.2: all rows of four calls of a new parcel, and all rows of five of one that
// has begun: it answers what a plain one does.
func TestAllRowsOfCalls(t *testing.T) {
	tryRows(t, 4, func(b *both) {})
	tryRows(t, 5, calls[0])
}

// tryRows tries all rows of so many calls behind first.
func tryRows(t *testing.T, length int, first func(b *both)) {
	t.Helper()
	rows := 1
	for range length {
		rows *= len(calls)
	}
	for row := range rows {
		b := newBoth(t)
		first(b)
		left := row
		for range length {
			calls[left%len(calls)](b)
			b.open(b.want.begun)
			left /= len(calls)
		}
	}
}

// P21.1, P21.2: whatever is done, a parcel answers what a plain one does.
func TestAsAPlainOne(t *testing.T) {
	for _, most := range []int{1, 3, 20, 200} {
		b, d := newBoth(t), dice(2100+most)
		took, refused, clears := 0, 0, 0
		ok := true
		for range 60000 {
			switch act := d.below(40); {
			case act < 10:
				ok = b.begin(texts[d.below(len(texts))], texts[d.below(len(texts))], d.below(4))
			case act < 20:
				ok = b.head(api.Content{Size: d.below(most+2) - 1, Prio: d.below(5), TTL: d.below(5)})
			case act < 26:
				ok = b.body(letters(d.below(most + 1)))
			case act < 30: // just what lacks, or one more
				ok = b.body(letters(max(b.want.told.Size-len(b.want.bytes), 0) + d.below(2)))
			case act < 39:
				if b.take() {
					took++
				}
			default:
				if b.want.headed {
					clears++
				}
				b.clear()
			}
			b.open(b.want.begun)
			if !ok {
				refused++
			}
			ok = true
		}
		if took < 1000 || refused < 10000 || clears < 100 {
			t.Errorf("of %d bytes at most: %d, %d, %d: too little of a kind", most, took, refused, clears)
		}
	}
}
