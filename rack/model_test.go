package rack_test

import (
	"slices"
	"testing"

	"mailcoach/api"
	"mailcoach/rack"
)

// dice is a row of numbers that look like any.
type dice uint64

// below is the next number, from 0 below n.
func (d *dice) below(n int) int {
	*d = *d*6364136223846793005 + 1442695040888963407
	return int(*d>>33) % n
}

// model does by the chapter's words what a rack does, with a plain list.
type model []api.Entry

func (m *model) put(e api.Entry) bool {
	if e.Prio < 0 || e.Prio > 3 || m.at(e.ID) >= 0 {
		return false
	}
	*m = sorted(append(*m, e))
	return true
}

func (m *model) at(id int) int {
	return slices.IndexFunc(*m, func(e api.Entry) bool { return e.ID == id })
}

func (m *model) first() (api.Entry, bool) {
	if len(*m) == 0 {
		return api.Entry{}, false
	}
	return (*m)[0], true
}

func (m *model) worst() (api.Entry, bool) {
	if len(*m) == 0 {
		return api.Entry{}, false
	}
	return worstOf(*m), true
}

func (m *model) drop(id int) (api.Entry, bool) {
	at := m.at(id)
	if at < 0 {
		return api.Entry{}, false
	}
	e := (*m)[at]
	*m = slices.Delete(*m, at, at+1)
	return e, true
}

func (m *model) gone(now int) []api.Entry {
	var gone, left []api.Entry
	for _, e := range *m {
		if e.Until > 0 && e.Until <= now {
			gone = append(gone, e)
		} else {
			left = append(left, e)
		}
	}
	*m = left
	return gone
}

// played: how often what a play can do came of it.
type played struct{ puts, twice, wrong, drops, backs, gone int }

// A play does the same to a rack and to its model, at random, with so many IDs.
type play struct {
	*testing.T
	dice
	rack   *rack.Rack
	model  model
	taken  []api.Entry
	ids    int
	now    int
	played played
}

func (p *play) same(call string, got, want api.Entry, ok, wantOk bool) {
	p.Helper()
	if got != want || ok != wantOk {
		p.Fatalf("%s: %v, %v; want %v, %v", call, got, ok, want, wantOk)
	}
}

func (p *play) put(e api.Entry) bool {
	want := p.model.put(e)
	wantPut(p.T, p.rack, e, want)
	return want
}

func (p *play) any() {
	e := api.Entry{ID: p.below(p.ids) - p.ids/3, Body: p.below(9), Prio: p.below(6) - 1, Until: p.now + p.below(40) - 1}
	if p.below(2) == 0 {
		e.Until = 0
	}
	switch {
	case p.put(e):
		p.played.puts++
	case e.Prio < 0 || e.Prio > 3:
		p.played.wrong++
	default:
		p.played.twice++
	}
}

func (p *play) take() {
	want, wantOk := p.model.first()
	p.model.drop(want.ID)
	got, ok := p.rack.Take()
	p.same("Take", got, want, ok, wantOk)
	if ok {
		p.taken = append(p.taken, got)
	}
}

func (p *play) drop() {
	id := p.below(p.ids) - p.ids/3
	want, wantOk := p.model.drop(id)
	got, ok := p.rack.Drop(id)
	p.same("Drop", got, want, ok, wantOk)
	if ok {
		p.taken = append(p.taken, got)
		p.played.drops++
	}
}

func (p *play) back() {
	if len(p.taken) == 0 {
		return
	}
	at := p.below(len(p.taken))
	e := p.taken[at]
	e.Again = true
	p.taken = slices.Delete(p.taken, at, at+1)
	if p.put(e) {
		p.played.backs++
	}
}

func (p *play) tick() {
	p.now++
	want := p.model.gone(p.now)
	wantGone(p.T, p.rack, p.now, want...)
	p.played.gone += len(want)
}

func (p *play) step(grows bool) {
	switch act := p.below(20); {
	case act < 8 && grows || act < 1:
		p.any()
	case act < 10 && grows || act < 3:
		p.back()
	case act < 13:
		p.take()
	case act < 18:
		p.drop()
	default:
		p.tick()
	}
}

// P15.1, P15.2: whatever is done, a rack is what a plain list is, that is sorted each time.
func TestAsTheModel(t *testing.T) {
	for _, x := range []int{3, 10, 60, 300, 2000} {
		p := &play{T: t, dice: dice(1500 + x), rack: rack.New(), ids: x}
		for step := range 20000 {
			p.step(step/700%3 != 2) // times of more, times of less
			if got, ok := p.rack.First(); true {
				want, wantOk := p.model.first()
				p.same("First", got, want, ok, wantOk)
			}
			if got, ok := p.rack.Worst(); true {
				want, wantOk := p.model.worst()
				p.same("Worst", got, want, ok, wantOk)
			}
			if x <= 60 || step%20 == 0 {
				wantRack(t, p.rack, p.model...)
			}
		}
		wantRack(t, p.rack, p.model...)
		if n := p.played; min(n.puts, n.wrong, n.drops, n.backs, n.gone) < 100 || x < 2000 && n.twice < 100 {
			t.Errorf("of %d IDs: %+v", x, n)
		}
	}
}

// P15.2: many, in order, whichever way they come and go.
func TestMany(t *testing.T) {
	const most = 1 << 16
	ways := []func(n int) int{
		func(n int) int { return n },
		func(n int) int { return most - 1 - n },
		func(n int) int { return []int{n / 2, most - 1 - n/2}[n%2] },
	}
	for i, way := range ways {
		r := rack.New()
		var want []api.Entry
		for n := range most {
			id := way(n)
			e := en(id, id/(most/4), id+1)
			wantPut(t, r, e, true)
			want = append(want, e)
		}
		want = sorted(want)
		wantRack(t, r, want...)
		if i == 0 {
			gone := slices.DeleteFunc(slices.Clone(want), func(e api.Entry) bool { return e.Until > most/2 })
			want = slices.DeleteFunc(want, func(e api.Entry) bool { return e.Until <= most/2 })
			wantGone(t, r, most/2, gone...)
			wantRack(t, r, want...)
		}
		for _, e := range want {
			wantOne(t, "Take", r.Take, e)
		}
		wantEmpty(t, r)
	}
}

// P15.2: some thousands that come, and go, without any order.
func TestManyShuffled(t *testing.T) {
	const most = 1 << 13
	r := rack.New()
	var want []api.Entry
	for n := range most {
		e := en(n*5003%most, n%3, 0)
		wantPut(t, r, e, true)
		want = append(want, e)
	}
	wantRack(t, r, sorted(want)...)
	for n := range most / 2 {
		id := n * 3001 % most
		at := slices.IndexFunc(want, func(e api.Entry) bool { return e.ID == id })
		wantOne(t, "Drop", dropOf(r, id), want[at])
		want = slices.Delete(want, at, at+1)
	}
	wantRack(t, r, sorted(want)...)
}
