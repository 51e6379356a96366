package outbox_test

import (
	"testing"

	"mailcoach/api"
)

// plain is an outbox by the chapter's words: what went, what waits, and how many more
// may go, byte by byte.
type plain struct {
	went, waits []byte
	may         int
}

func (m *plain) put(b string) {
	m.waits = append(m.waits, b...)
	m.letGo()
}

func (m *plain) grant(n int) {
	for range min(max(n, 0), api.MaxTime) {
		if m.may < api.MaxTime {
			m.may++
		}
		m.letGo()
	}
}

// letGo lets go all that may go, one byte behind the other.
func (m *plain) letGo() {
	for m.may > 0 && len(m.waits) > 0 {
		m.went = append(m.went, m.waits[0])
		m.waits = m.waits[1:]
		m.may--
	}
}

// both does the same with an outbox and with a plain one.
type both struct {
	hand
	want plain
}

func newBoth(t *testing.T) *both { return &both{hand: newHand(t)} }

func (b *both) put(s string) {
	b.Put(s)
	b.want.put(s)
}

func (b *both) grant(n int) {
	b.Grant(n)
	b.want.grant(n)
}

func (b *both) look() {
	b.Helper()
	m := &b.want
	b.says(string(m.went), len(m.waits), m.may, string(m.went)+string(m.waits))
}

// steps: each of them is tried behind each of them.
var steps = []func(b *both){
	func(b *both) { b.put("") },
	func(b *both) { b.put("x") },
	func(b *both) { b.put("yz") },
	func(b *both) { b.put(letters(997)) },
	func(b *both) { b.put(letters(2001)) },
	func(b *both) { b.grant(-1) },
	func(b *both) { b.grant(0) },
	func(b *both) { b.grant(1) },
	func(b *both) { b.grant(3) },
	func(b *both) { b.grant(1000) },
}

// P22.1, P22.2: all rows of four steps: behind each of them it answers what a plain one
// does.
func TestAllRowsOfSteps(t *testing.T) {
	const length = 4
	rows := 1
	for range length {
		rows *= len(steps)
	}
	for row := range rows {
		b := newBoth(t)
		left := row
		for range length {
			steps[left%len(steps)](b)
			b.look()
			left /= len(steps)
		}
	}
}

// P22.1, P22.2: whatever is put and granted, an outbox answers what a plain one does: now
// more is put than granted, now less.
func TestAsAPlainOne(t *testing.T) {
	for _, most := range []int{1, 3, 20, 300, 5000} {
		b, d := newBoth(t), dice(2200+most)
		all := letters(most)
		some, wait, spare := 0, 0, 0 // how often some of what waited went, some waits, some more may go
		puts := 8                    // so many of ten steps
		for range 4000 {
			was := b.Waits()
			if was > 5*most {
				puts = 2
			} else if b.May() > 5*most {
				puts = 8
			}
			if d.below(10) < puts {
				b.put(all[d.below(most):])
			} else {
				b.grant(d.below(most+2) - 1)
			}
			switch {
			case b.Waits() > 0 && b.Waits() < was:
				some++
			case b.Waits() > 0:
				wait++
			case b.May() > 0:
				spare++
			}
			if d.below(1+most/20) == 0 {
				b.look()
			}
		}
		b.look()
		if some < 100 || wait < 100 || spare < 100 {
			t.Errorf("of %d bytes at most: %d, %d, %d: too little of a kind", most, some, wait, spare)
		}
	}
}

// P22.1: of any grants, whose sum comes to the limit again and again.
func TestAsAPlainOneNearTheLimit(t *testing.T) {
	b, d := newBoth(t), dice(2222)
	for range 300 {
		switch d.below(3) {
		case 0:
			b.put(letters(d.below(4)))
		case 1:
			b.grant(d.below(4) - 1)
		default:
			b.grant(edges[d.below(len(edges))])
		}
		b.look()
	}
}
