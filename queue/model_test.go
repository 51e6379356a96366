package queue_test

import (
	"slices"
	"testing"

	"mailcoach/api"
	"mailcoach/queue"
)

// sorted are those by the greater Prio, of one Prio by the lesser ID.
func sorted(all []api.Entry) []api.Entry {
	all = slices.Clone(all)
	slices.SortFunc(all, func(a, b api.Entry) int {
		if a.Prio != b.Prio {
			return b.Prio - a.Prio
		}
		if a.ID < b.ID {
			return -1
		}
		return 1
	})
	return all
}

// dice is a row of numbers that look like any.
type dice uint64

// below is the next number, from 0 below n.
func (d *dice) below(n int) int {
	*d = *d*6364136223846793005 + 1442695040888963407
	return int(*d>>33) % n
}

// model does by the chapters' words what a queue does, with a plain list in order.
type model struct {
	options api.Options
	all     []api.Entry
	came    map[int]bool // by ID: whether it came back
}

func (m *model) limit() int {
	if m.options.MaxLen >= 1 && m.options.MaxLen <= 60 {
		return m.options.MaxLen
	}
	return 60
}

// may tells whether it may be there: not where its ID is, nor with a Prio that is none.
func (m *model) may(e api.Entry) bool {
	there := slices.ContainsFunc(m.all, func(x api.Entry) bool { return x.ID == e.ID })
	return !there && e.Prio >= 0 && e.Prio <= 3
}

func (m *model) add(e api.Entry, back bool) {
	m.all = sorted(append(m.all, e))
	m.came[e.ID] = back
}

// lessBacks tells how many there are that didn't come back.
func (m *model) lessBacks() int {
	n := 0
	for _, e := range m.all {
		if !m.came[e.ID] {
			n++
		}
	}
	return n
}

// worst is the place of the one that goes first.
func (m *model) worst() int {
	last := m.all[len(m.all)-1]
	return slices.IndexFunc(m.all, func(e api.Entry) bool { return e.Prio == last.Prio })
}

func (m *model) put(e api.Entry, now int) (bool, []api.Entry) {
	e.Prio = min(e.Prio, m.options.Prio)
	e.Prio = max(e.Prio, 0)
	e.Until = 0
	for _, ttl := range []int{e.TTL, m.options.TTL} {
		if ttl > 0 && (e.Until == 0 || now+ttl < e.Until) {
			e.Until = now + ttl
		}
	}
	var went []api.Entry
	if !m.may(e) || m.options.Bits&4 == 4 && len(m.all) >= m.limit() {
		return false, nil
	}
	for len(m.all) >= m.limit() {
		at := m.worst()
		went = append(went, m.all[at])
		m.all = slices.Delete(m.all, at, at+1)
	}
	m.add(e, false)
	return true, went
}

func (m *model) back(e api.Entry) bool {
	e.Again = true
	may := m.may(e)
	if may {
		m.add(e, true)
	}
	return may
}

func (m *model) take() (api.Entry, bool) {
	if len(m.all) == 0 {
		return api.Entry{}, false
	}
	first := m.all[0]
	m.all = slices.Clone(m.all[1:])
	return first, true
}

func (m *model) gone(now int) []api.Entry {
	is := func(e api.Entry) bool { return e.Until > 0 && e.Until <= now }
	gone := slices.DeleteFunc(slices.Clone(m.all), func(e api.Entry) bool { return !is(e) })
	m.all = slices.DeleteFunc(m.all, is)
	return gone
}

// played: how often what a play can do came of it.
type played struct{ taken, refused, dropped, backs, wrong, gone, above int }

// A play does the same to a queue and to its model, at random.
type play struct {
	*testing.T
	dice
	queue  *queue.Queue
	model  model
	hand   []api.Entry // taken, and not back
	now    int
	last   int // ID
	played played
}

func (p *play) entry() api.Entry {
	id := p.last + 1
	if p.below(4) == 0 {
		id = p.last - p.below(12)
	}
	p.last = max(p.last, id)
	e := api.Entry{ID: id, Body: p.below(9), Size: p.below(9), Prio: p.below(7) - 1, Hops: p.below(4), Until: p.below(3) * p.now}
	if p.below(3) == 0 {
		e.TTL = p.below(40) - 2
	}
	e.Again = p.below(5) == 0
	return e
}

func (p *play) put() {
	e := p.entry()
	want, went := p.model.put(e, p.now)
	wantPut(p.T, p.queue, e, p.now, want, went...)
	p.played.dropped += len(went)
	if !want {
		p.played.refused++
		return
	}
	p.played.taken++
	if n, most := p.queue.Len(), p.model.limit(); n > most {
		p.Fatalf("%d behind Put; at most %d", n, most)
	}
}

func (p *play) take() {
	want, wantOk := p.model.take()
	got, ok := p.queue.Take()
	if got != want || ok != wantOk {
		p.Fatalf("Take: %v, %v; want %v, %v", got, ok, want, wantOk)
	}
	if ok {
		p.hand = append(p.hand, got)
	}
}

func (p *play) back() {
	e := p.entry()
	if len(p.hand) > 0 && p.below(5) > 0 {
		at := p.below(len(p.hand))
		e = p.hand[at]
		p.hand = slices.Delete(p.hand, at, at+1)
	}
	want := p.model.back(e)
	wantBack(p.T, p.queue, e, want)
	if want {
		p.played.backs++
	} else {
		p.played.wrong++
	}
}

func (p *play) tick() {
	p.now += p.below(4)
	want := p.model.gone(p.now)
	wantGone(p.T, p.queue, p.now, want...)
	p.played.gone += len(want)
}

// step does one thing; there are times of handing out, and times of coming back.
func (p *play) step(out bool) {
	switch act := p.below(20); {
	case act < 9:
		p.put()
	case act < 12, act < 18 && out:
		p.take()
	case act < 18:
		p.back()
	case act == 18 && p.below(60) == 0:
		wantPurge(p.T, p.queue, p.model.all...)
		p.model.all = nil
	default:
		p.tick()
	}
}

// P16.1, P16.2: whatever is done, a queue is what a plain list is; it is never more than
// its limit, but for those that come back.
func TestAsTheModel(t *testing.T) {
	var all played
	for _, o := range []api.Options{
		{}, {MaxLen: 1}, {MaxLen: 2, Prio: 3}, {MaxLen: 7, Prio: 2, TTL: 20}, {MaxLen: 60, Prio: 9, TTL: 9}, {MaxLen: 61, Prio: 1},
		{Bits: 4, Prio: 3}, {MaxLen: 1, Bits: 15}, {MaxLen: 5, Bits: 4, Prio: 5, TTL: 12}, {MaxLen: 5, Bits: 11, Prio: 3}, {MaxLen: -5, Prio: -5, TTL: -5},
	} {
		p := &play{T: t, dice: dice(1600 + o.MaxLen), queue: queue.New(o), model: model{options: o, came: map[int]bool{}}, now: 1}
		for step := range 6000 {
			p.step(step/150%2 == 0)
			wantQueue(t, p.queue, p.model.all...)
			if n := p.model.lessBacks(); n > p.model.limit() {
				t.Fatalf("%v: %d, at most %d", o, n, p.model.limit())
			}
			if p.queue.Len() > p.model.limit() {
				p.played.above++
			}
			if p.queue.Options() != o {
				t.Fatalf("%v; want %v", p.queue.Options(), o)
			}
		}
		n := p.played
		if min(n.taken, n.refused, n.backs, n.wrong, n.gone) < 20 {
			t.Errorf("%v: %+v: too little of a kind", o, n)
		}
		all.dropped += n.dropped
		all.above += n.above
	}
	if min(all.dropped, all.above) < 1000 {
		t.Errorf("%+v: too little of a kind", all)
	}
}
