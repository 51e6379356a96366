package slip_test

import (
	"slices"
	"strings"
	"testing"

	"mailcoach/api"
	"mailcoach/slip"
)

// dice is a row of numbers that look like any.
type dice uint64

// below is the next number, from 0 below n.
func (d *dice) below(n int) int {
	*d = *d*6364136223846793005 + 1442695040888963407
	return int(*d>>33) % n
}

// model does by the chapter's words what Slips do, with a plain list by tag.
type model []api.Slip

func (m *model) add(x api.Slip) bool {
	if x.Tag < 1 || x.Tag > 1000000 || m.at(x.Tag) >= 0 {
		return false
	}
	*m = byTag(append(*m, x))
	return true
}

func (m *model) at(tag int) int {
	return slices.IndexFunc(*m, func(x api.Slip) bool { return x.Tag == tag })
}

func (m *model) take(tag int) (api.Slip, bool) {
	at := m.at(tag)
	if at < 0 {
		return api.Slip{}, false
	}
	x := (*m)[at]
	*m = slices.Delete(*m, at, at+1)
	return x, true
}

func (m *model) upto(tag int) []api.Slip {
	above := func(x api.Slip) bool { return x.Tag > tag && tag != 0 }
	went := slices.DeleteFunc(slices.Clone(*m), above)
	*m = slices.DeleteFunc(slices.Clone(*m), func(x api.Slip) bool { return !above(x) })
	return went
}

// played: how often what a play can do came of it.
type played struct{ adds, twice, wrong, takes, none, few, all int }

// A play does the same to Slips and to their model, at random, with so many tags.
type play struct {
	*testing.T
	dice
	slips  *slip.Slips
	model  model
	tags   int // so many
	first  int // the least of them
	last   int // handed out
	played played
}

func (p *play) tag() int { return p.first + p.below(p.tags) }

// add adds one of whatever tag, or with the next one, as a channel does.
func (p *play) add(next bool) {
	tag := p.tag()
	if next {
		p.last = (p.last + 1) % p.tags
		tag = p.first + p.last
	}
	x := api.Slip{Tag: tag, Queue: p.below(9), Consumer: strings.Repeat("c", p.below(4)), Entry: api.Entry{ID: p.below(9), Again: p.below(2) == 0}}
	want := p.model.add(x)
	if got := p.slips.Add(x); got != want {
		p.Fatalf("Add(%v): %v; want %v", x, got, want)
	}
	switch {
	case want:
		p.played.adds++
	case tag < 1 || tag > 1000000:
		p.played.wrong++
	default:
		p.played.twice++
	}
}

func (p *play) take() {
	tag := p.tag()
	if p.below(2) == 0 && len(p.model) > 0 {
		tag = p.model[p.below(len(p.model))].Tag
	}
	want, wantOk := p.model.take(tag)
	got, ok := p.slips.Take(tag)
	if got != want || ok != wantOk {
		p.Fatalf("Take(%d): %v, %v; want %v, %v", tag, got, ok, want, wantOk)
	}
	if ok {
		p.played.takes++
	} else {
		p.played.none++
	}
}

// upto lets only some go most often, so that there is something.
func (p *play) upto() {
	tag := p.tag()
	if len(p.model) > 0 && p.below(10) > 0 {
		tag = p.model[p.below(len(p.model))/4].Tag
	}
	if p.below(40) == 0 {
		tag = 0
	}
	want := p.model.upto(tag)
	wantUpto(p.T, p.slips, tag, want...)
	if tag == 0 && len(want) > 1 {
		p.played.all++
	} else if len(want) > 1 && len(p.model) > 1 {
		p.played.few++
	}
}

func (p *play) step(grows bool) {
	switch act := p.below(20); {
	case act < 13 && grows || act < 3:
		p.add(act%3 > 0)
	case act < 19:
		p.take()
	default:
		p.upto()
	}
}

// P17.1, P17.2: whatever is done, Slips are what a plain list is that is sorted each time.
func TestAsTheModel(t *testing.T) {
	for _, x := range []struct{ tags, first int }{{9, -2}, {60, -5}, {60, 999960}, {400, -20}, {3000, -100}} {
		p := &play{T: t, dice: dice(1700 + x.tags), slips: slip.New(), tags: x.tags, first: x.first}
		for step := range 15000 {
			p.step(step/300%3 != 2) // times of more, times of less
			if x.tags <= 60 || step%10 == 0 {
				wantSlips(t, p.slips, p.model...)
			}
		}
		wantSlips(t, p.slips, p.model...)
		n := p.played
		if min(n.adds, n.twice, n.wrong, n.takes, n.none, n.few) < 30 || n.all < 8 {
			t.Errorf("of %d tags: %+v: too little of a kind", x.tags, n)
		}
	}
}
