package guest_test

import (
	"slices"
	"strings"
	"testing"

	"mailcoach/api"
	"mailcoach/guest"
)

// dice is a row of numbers that look like any.
type dice uint64

// below is the next number, from 0 below n.
func (d *dice) below(n int) int {
	*d = *d*6364136223846793005 + 1442695040888963407
	return int(*d>>33) % n
}

// A round does by the chapter's words what Guests do, with those that are there from the
// turn on, round and round, each with a number that rises as they come.
type round []numbered

type numbered struct {
	api.Guest
	n int
}

func who(conn, channel int, tag string) func(numbered) bool {
	return func(x numbered) bool { return x.Conn == conn && x.Chan == channel && x.Tag == tag }
}

// last is where the one lies that came last: those behind it are ahead of the turn's one.
func (r round) last() int {
	last := 0
	for at, x := range r {
		if x.n > r[last].n {
			last = at
		}
	}
	return last
}

func (r *round) add(x api.Guest, n int) bool {
	if slices.ContainsFunc(*r, who(x.Conn, x.Chan, x.Tag)) {
		return false
	}
	at := 0
	if len(*r) > 0 {
		at = r.last() + 1
	}
	*r = slices.Insert(*r, at, numbered{x, n})
	return true
}

func (r *round) drop(conn, channel int, tag string) bool {
	at := slices.IndexFunc(*r, who(conn, channel, tag))
	if at < 0 {
		return false
	}
	*r = slices.Delete(*r, at, at+1)
	return true
}

// all are they in order.
func (r round) all() []api.Guest {
	sorted := slices.Clone(r)
	slices.SortFunc(sorted, func(a, b numbered) int { return a.n - b.n })
	var all []api.Guest
	for _, x := range sorted {
		all = append(all, x.Guest)
	}
	return all
}

func (r *round) pick(spare []bool) (api.Guest, bool) {
	all := r.all()
	for at, x := range *r {
		if place := slices.Index(all, x.Guest); place < len(spare) && spare[place] {
			*r = append(slices.Clone((*r)[at+1:]), (*r)[:at+1]...)
			return x.Guest, true
		}
	}
	return api.Guest{}, false
}

// played: how often what a play can do came of it.
type played struct{ adds, twice, drops, none, picks, nobody int }

// A play does the same to Guests and to their round, at random, with so many tags.
type play struct {
	*testing.T
	dice
	guests *guest.Guests
	round  round
	tags   int // so many
	came   int
	played played
}

// any is a guest, that is there or isn't.
func (p *play) any() api.Guest {
	if len(p.round) > 0 && p.below(3) == 0 {
		return p.round[p.below(len(p.round))].Guest
	}
	return api.Guest{Conn: p.below(2), Chan: p.below(2), Tag: strings.Repeat("t", p.below(p.tags)), Most: p.below(9), NoAck: p.below(2) == 0, Sole: p.below(9) == 0}
}

func (p *play) add() {
	x := p.any()
	p.came++
	want := p.round.add(x, p.came)
	if got := p.guests.Add(x); got != want {
		p.Fatalf("Add(%v): %v; want %v", x, got, want)
	}
	if want {
		p.played.adds++
	} else {
		p.played.twice++
	}
}

func (p *play) drop() {
	x := p.any()
	want := p.round.drop(x.Conn, x.Chan, x.Tag)
	if got := p.guests.Drop(x.Conn, x.Chan, x.Tag); got != want {
		p.Fatalf("Drop(%v): %v; want %v", x, got, want)
	}
	if want {
		p.played.drops++
	} else {
		p.played.none++
	}
}

// spare is a list of about as many as there are; of few of them most often.
func (p *play) spare() []bool {
	spare := make([]bool, max(0, len(p.round)+p.below(7)-3))
	few := 1 + p.below(30)
	for i := range spare {
		spare[i] = p.below(few) == 0
	}
	return spare
}

func (p *play) pick() {
	spare := p.spare()
	want, wantOk := p.round.pick(spare)
	got, ok := p.guests.Pick(spare)
	if got != want || ok != wantOk {
		p.Fatalf("Pick(%v): %v, %v; want %v, %v", spare, got, ok, want, wantOk)
	}
	if ok {
		p.played.picks++
	} else {
		p.played.nobody++
	}
}

func (p *play) step(grows bool) {
	switch act := p.below(20); {
	case act < 6 && grows || act < 2:
		p.add()
	case act < 10:
		p.drop()
	default:
		p.pick()
	}
}

// P18.1, P18.3: whatever is done, Guests are what a plain round is that is turned each time.
func TestAsTheRound(t *testing.T) {
	for _, tags := range []int{1, 2, 9, 40, 120} {
		p := &play{T: t, dice: dice(1800 + tags), guests: guest.New(), tags: tags}
		for step := range 15000 {
			p.step(step/500%3 != 2) // times of more, times of less
			wantGuests(t, p.guests, p.round.all()...)
		}
		if n := p.played; min(n.adds, n.twice, n.drops, n.none, n.picks, n.nobody) < 200 {
			t.Errorf("of %d tags: %+v: too little of a kind", tags, n)
		}
	}
}

// P18.1, P18.3: likewise of so many that they lie in more than one stretch.
func TestAsTheRoundOfMany(t *testing.T) {
	for _, n := range []int{64, 65, 128, 300} {
		p := &play{T: t, dice: dice(1900 + n), guests: guest.New(), tags: 200}
		for p.guests.Len() < n {
			p.add()
		}
		for step := range 1500 {
			p.pick()
			if step%3 == 0 {
				p.drop()
			}
			for p.guests.Len() < n {
				p.add()
			}
		}
		wantGuests(t, p.guests, p.round.all()...)
	}
}
