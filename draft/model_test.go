package draft_test

import (
	"testing"

	"mailcoach/api"
)

// dice is a row of numbers that look like any.
type dice uint64

// below is the next number, from 0 below n.
func (d *dice) below(n int) int {
	*d = *d*6364136223846793005 + 1442695040888963407
	return int(*d>>33) % n
}

// P20.1, P20.2: whatever is done, a draft tells what plain lists do.
func TestAsPlainLists(t *testing.T) {
	for _, tags := range []int{3, 30, 300} {
		b, d := newBoth(t), dice(2000+tags)
		publishes, acks, again, clears := 0, 0, 0, 0
		for range 8000 {
			switch act := d.below(4 * tags); {
			case act == 0:
				if min(len(b.want.entries), len(b.want.acks)) > 0 {
					clears++
				}
				b.clear()
			case act%2 == 0:
				b.publish(api.Entry{ID: d.below(tags), Body: d.below(9), Prio: d.below(5), Again: d.below(2) == 0}, d.below(4))
				publishes++
			default:
				tag := d.below(tags) - 2
				if b.want.has(tag) {
					again++
				}
				b.ack(tag, d.below(4))
				acks++
			}
			if tags < 100 || d.below(10) == 0 {
				b.check()
			}
		}
		b.check()
		if min(publishes, acks) < 1000 || again < 200 || clears < 3 {
			t.Errorf("of %d tags: %d, %d, %d, %d: too little of a kind", tags, publishes, acks, again, clears)
		}
	}
}
