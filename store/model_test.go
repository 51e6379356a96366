package store_test

import (
	"fmt"
	"slices"
	"strings"
	"testing"

	"mailcoach/api"
	"mailcoach/entry"
	"mailcoach/exchange"
	"mailcoach/guest"
	"mailcoach/pattern"
	"mailcoach/queue"
	"mailcoach/store"
)

// dice is a row of numbers that look like any.
type dice uint64

// below is the next number, from 0 below n.
func (d *dice) below(n int) int {
	*d = *d*6364136223846793005 + 1442695040888963407
	return int(*d>>33) % n
}

func (d *dice) of(all []string) string { return all[d.below(len(all))] }

// modelQueue is a queue of a model.
type modelQueue struct {
	name         string
	number, conn int
	*queue.Queue
	guests *guest.Guests
}

// model does by the chapter's words what a store does, by calls within calls; how often a
// body is held it counts in a map.
type model struct {
	all             []*modelQueue
	ways            *exchange.Exchanges
	held            map[int]int
	number, id, now int
	deaths          int // how often a dead one went on
}

func newModel() *model { return &model{ways: exchange.New(), held: map[int]int{}} }

func (m *model) find(is func(q *modelQueue) bool) *modelQueue {
	if at := slices.IndexFunc(m.all, is); at >= 0 {
		return m.all[at]
	}
	return nil
}

func (m *model) named(name string) *modelQueue {
	return m.find(func(q *modelQueue) bool { return q.name == name })
}

func (m *model) numbered(number int) *modelQueue {
	return m.find(func(q *modelQueue) bool { return q.number == number })
}

func (m *model) may(name string, conn int) api.Errno {
	q := m.named(name)
	if q == nil {
		return api.NotFound
	}
	if q.Options().Bits&api.Exclusive == api.Exclusive && q.conn != conn {
		return api.Locked
	}
	return api.OK
}

func (m *model) queue(name string, o api.Options, conn int) (int, int, api.Errno) {
	e := m.may(name, conn)
	if o.Bits&api.Passive != 0 {
		if e != api.OK {
			return 0, 0, e
		}
		return m.named(name).Len(), m.named(name).guests.Len(), api.OK
	}
	if !pattern.IsName(name) || !entry.IsOptions(o) {
		return 0, 0, api.Failed
	}
	if e == api.Locked {
		return 0, 0, e
	}
	if e == api.OK {
		if !entry.SameOptions(m.named(name).Options(), o) {
			return 0, 0, api.Failed
		}
		return m.named(name).Len(), m.named(name).guests.Len(), api.OK
	}
	if len(m.all) == 8 {
		return 0, 0, api.Resource
	}
	m.number++
	m.all = append(m.all, &modelQueue{name, m.number, conn, queue.New(o), guest.New()})
	return 0, 0, api.OK
}

func (m *model) bind(b api.Binding, conn int, unbind bool) api.Errno {
	if e := m.may(b.Queue, conn); e != api.OK {
		return e
	}
	if unbind {
		return m.ways.Unbind(b)
	}
	return m.ways.Bind(b)
}

func (m *model) purge(name string, conn int) (int, api.Errno) {
	if e := m.may(name, conn); e != api.OK {
		return 0, e
	}
	went := m.named(name).Purge()
	for _, e := range went {
		m.done(e)
	}
	return len(went), api.OK
}

func (m *model) delete(name string, bits, conn int) (int, api.Errno) {
	if e := m.may(name, conn); e != api.OK {
		return 0, e
	}
	q := m.named(name)
	if bits&api.IfUnused != 0 && q.guests.Len() > 0 || bits&api.IfEmpty != 0 && q.Len() > 0 {
		return 0, api.Failed
	}
	n, _ := m.purge(name, q.conn)
	m.ways.DropQueue(name)
	m.all = slices.DeleteFunc(m.all, func(x *modelQueue) bool { return x == q })
	return n, api.OK
}

func (m *model) publish(e api.Entry) (bool, int) {
	m.id++
	e.ID = m.id
	all, routed := true, 0
	names, _ := m.ways.Route(e.Exchange, e.Key)
	for _, name := range names {
		q := m.named(name)
		if q == nil {
			continue
		}
		routed++
		if m.held[e.Body] > 0 {
			m.held[e.Body]++
		}
		ok, went := q.Put(e, m.now)
		if !ok {
			all = false
			m.done(e)
		}
		for _, x := range went {
			m.dead(q.number, x)
		}
	}
	return all, routed
}

func (m *model) done(e api.Entry) {
	if m.held[e.Body] > 0 {
		m.held[e.Body]--
	}
}

func (m *model) dead(number int, e api.Entry) {
	q := m.numbered(number)
	if q != nil && (q.Options().Dead != "" || q.Options().DeadKey != "") && e.Hops < 3 && m.ways.Has(q.Options().Dead) {
		x := e
		x.Exchange = q.Options().Dead
		if q.Options().DeadKey != "" {
			x.Key = q.Options().DeadKey
		}
		x.TTL, x.Again, x.Hops = 0, false, e.Hops+1
		m.deaths++
		m.publish(x)
	}
	m.done(e)
}

func (m *model) back(number int, e api.Entry) {
	if q := m.numbered(number); q == nil || !q.Back(e) {
		m.done(e)
	}
}

func (m *model) take(name string, conn int) (api.Entry, int, int, api.Errno) {
	if e := m.may(name, conn); e != api.OK {
		return api.Entry{}, 0, 0, e
	}
	q := m.named(name)
	e, ok := q.Take()
	if !ok {
		return api.Entry{}, 0, 0, api.ErrNone
	}
	return e, q.number, q.Len(), api.OK
}

func (m *model) consume(name string, g api.Guest) api.Errno {
	if e := m.may(name, g.Conn); e != api.OK {
		return e
	}
	q := m.named(name)
	if q.guests.Sole() || g.Sole && q.guests.Len() > 0 {
		return api.Refused
	}
	if !q.guests.Add(g) {
		return api.Failed
	}
	return api.OK
}

// lose lets the consumers that are so go, with what that leaves unused.
func (m *model) lose(is func(g api.Guest) bool) {
	for _, q := range slices.Clone(m.all) {
		lost := false
		for _, g := range q.guests.All() {
			if is(g) {
				lost = q.guests.Drop(g.Conn, g.Chan, g.Tag)
			}
		}
		if lost && q.guests.Len() == 0 && q.Options().Bits&api.AutoDelete != 0 {
			m.delete(q.name, 0, q.conn)
		}
	}
}

func (m *model) leave(conn int) {
	m.lose(func(g api.Guest) bool { return g.Conn == conn })
	for _, q := range slices.Clone(m.all) {
		if q.Options().Bits&api.Exclusive != 0 && q.conn == conn {
			m.delete(q.name, 0, conn)
		}
	}
}

func (m *model) pick(name string, spare []bool) (api.Guest, api.Entry, int, bool) {
	q := m.named(name)
	if q == nil || q.Len() == 0 {
		return api.Guest{}, api.Entry{}, 0, false
	}
	g, ok := q.guests.Pick(spare)
	if !ok {
		return api.Guest{}, api.Entry{}, 0, false
	}
	e, _ := q.Take()
	return g, e, q.number, true
}

func (m *model) tick() {
	m.now++
	for _, q := range m.all {
		for _, e := range q.Gone(m.now) {
			m.dead(q.number, e)
		}
	}
}

// told is what told of a store with the same in it is, but for what is free.
func (m *model) told() string {
	live, words := 0, []string{}
	for _, n := range m.held {
		live += min(n, 1)
	}
	for _, q := range m.all {
		words = append(words, fmt.Sprint(q.name, q.All(), q.guests.All()))
	}
	return fmt.Sprint(m.now, live, words)
}

// what random steps are made of: few of each, so that they meet.
var (
	someQueues    = []string{"a", "b", "c", "d", "e", "f", "g", "h", "i", "none", "no name"}
	someExchanges = []string{"", "", "d", "f", "t", "auto", "none"}
	someKeys      = []string{"a", "b", "c", "d", "e", "a.b", "#", "*", "none", ""}
	someTags      = []string{"x", "y", ""}
)

// hand is what was taken from a queue and is not done with.
type hand struct {
	api.Entry
	queue int
}

// A play does the same to a store and to its model, at random.
type play struct {
	*testing.T
	dice
	store  *store.Store
	model  *model
	hands  []hand
	errors map[api.Errno]int
	moved  map[string]int // how often each of what a play can do came of something
}

func newPlay(t *testing.T, seed int) *play {
	return &play{T: t, dice: dice(seed), store: store.New(api.MaxRoom), model: newModel(), errors: map[api.Errno]int{}, moved: map[string]int{}}
}

// same: both answered the same.
func (p *play) same(what string, got, want any) {
	if fmt.Sprint(got) != fmt.Sprint(want) {
		p.Fatalf("%s: %v; want %v", what, got, want)
	}
}

// answers are all that a call answered.
func answers(all ...any) []any { return all }

func (p *play) options() api.Options {
	o := api.Options{MaxLen: p.below(5), TTL: p.below(3) * p.below(6), Prio: p.below(4), Bits: p.below(8) & p.below(8)}
	if p.below(3) > 0 {
		o.Dead = p.of(someExchanges)
	}
	if p.below(3) > 0 {
		o.DeadKey = p.of(someKeys)
	}
	if p.below(12) == 0 {
		o.TTL--
	}
	if p.below(4) == 0 {
		o.Bits |= api.Passive
	}
	return o
}

func (p *play) declare() {
	name, conn, o := p.of(someQueues), p.below(4), p.options()
	if q := p.model.named(name); q != nil && p.below(3) > 0 {
		o = q.Options()
	}
	n, c, e := p.store.Queue(name, o, conn)
	x, y, want := p.model.queue(name, o, conn)
	p.same("Queue", answers(n, c, e), answers(x, y, want))
	p.errors[e]++
}

func (p *play) ways() {
	name, kind, bits := p.of(someExchanges), p.of([]string{"direct", "fanout", "topic", "wrong"}), p.below(4)
	if p.below(9) == 0 {
		p.same("ExDelete", p.store.ExDelete(name, bits), p.model.ways.Delete(name, bits))
		return
	}
	p.same("Exchange", p.store.Exchange(name, kind, bits), p.model.ways.Declare(name, exchange.Kind(kind), bits))
}

func (p *play) bind() {
	b, conn := api.Binding{Exchange: p.of(someExchanges), Queue: p.of(someQueues), Key: p.of(someKeys)}, p.below(4)
	call, unbind := p.store.Bind, p.below(4) == 0
	if unbind {
		call = p.store.Unbind
	}
	p.same("Bind", call(b, conn), p.model.bind(b, conn, unbind))
}

func (p *play) publish() {
	e := api.Entry{Exchange: p.of(someExchanges), Key: p.of(someKeys), Prio: p.below(5), TTL: p.below(3) * p.below(6), Again: p.below(2) == 0, Hops: p.below(2) * p.below(5)}
	e.Size = p.below(9) * p.below(9)
	if h, errno := p.store.Slab().Put(strings.Repeat("b", e.Size)); errno == api.OK && p.below(9) > 0 {
		e.Body = h
		p.model.held[h] = 1
	} else if errno == api.OK {
		p.store.Slab().Drop(h)
	}
	ok, n := p.store.Publish(e)
	wantOk, want := p.model.publish(e)
	p.same("Publish", answers(ok, n), answers(wantOk, want))
	p.moved[fmt.Sprint("published ", ok)] += n
	p.hands = append(p.hands, hand{e, -1}) // its own hold
}

func (p *play) take() {
	name, conn := p.of(someQueues), p.below(4)
	e, number, n, errno := p.store.Take(name, conn)
	x, y, z, want := p.model.take(name, conn)
	p.same("Take", answers(e, number, n, errno), answers(x, y, z, want))
	if errno == api.OK {
		p.hands = append(p.hands, hand{e, number})
		p.moved["taken"]++
	}
}

func (p *play) pick() {
	name, spare := p.of(someQueues), []bool{p.below(3) > 0, p.below(3) > 0, p.below(3) > 0}
	g, e, number, ok := p.store.Pick(name, spare)
	x, y, z, want := p.model.pick(name, spare)
	p.same("Pick", answers(g, e, number, ok), answers(x, y, z, want))
	if ok {
		p.hands = append(p.hands, hand{e, number})
		p.moved["picked"]++
	}
}

// settle does with one that was taken what may be done with it.
func (p *play) settle() {
	if len(p.hands) == 0 {
		return
	}
	at := p.below(len(p.hands))
	x := p.hands[at]
	p.hands = slices.Delete(p.hands, at, at+1)
	if p.below(9) == 0 {
		x.queue = p.below(p.model.number + 2)
	}
	switch way := p.below(3); {
	case way == 0 || x.queue < 0:
		p.store.Done(x.Entry)
		p.model.done(x.Entry)
	case way == 1:
		p.store.Back(x.queue, x.Entry)
		p.model.back(x.queue, x.Entry)
		p.moved["back"]++
	default:
		p.store.Dead(x.queue, x.Entry)
		p.model.dead(x.queue, x.Entry)
		p.moved["dead"]++
	}
}

func (p *play) consume() {
	name, g := p.of(someQueues), api.Guest{Conn: p.below(4), Chan: 1 + p.below(2), Tag: p.of(someTags), Most: p.below(3), Sole: p.below(9) == 0}
	e := p.store.Consume(name, g)
	p.same("Consume", e, p.model.consume(name, g))
	p.errors[e]++
}

func (p *play) cancel() {
	conn, channel, tag := p.below(4), 1+p.below(2), p.of(someTags)
	p.store.Cancel(conn, channel, tag)
	p.model.lose(func(g api.Guest) bool { return g.Conn == conn && g.Chan == channel && g.Tag == tag })
}

func (p *play) leave() {
	conn := p.below(5)
	p.store.Leave(conn)
	p.model.leave(conn)
}

func (p *play) purge() {
	name, conn := p.of(someQueues), p.below(4)
	n, e := p.store.Purge(name, conn)
	x, want := p.model.purge(name, conn)
	p.same("Purge", answers(n, e), answers(x, want))
}

func (p *play) delete() {
	name, bits, conn := p.of(someQueues), p.below(4), p.below(4)
	n, e := p.store.Delete(name, bits, conn)
	x, want := p.model.delete(name, bits, conn)
	p.same("Delete", answers(n, e), answers(x, want))
	p.moved["deleted"] += n
}

func (p *play) tick() {
	p.store.Tick()
	p.model.tick()
}

// step does one thing, the common ones more often.
func (p *play) step() {
	all := []struct {
		often int
		do    func()
	}{{60, p.publish}, {14, p.take}, {14, p.pick}, {60, p.settle}, {12, p.declare}, {6, p.ways}, {12, p.bind}, {10, p.consume}, {2, p.cancel}, {1, p.leave}, {1, p.purge}, {2, p.delete}, {9, p.tick}}
	at := p.below(203)
	for _, x := range all {
		if at -= x.often; at < 0 {
			x.do()
			return
		}
	}
}

// begin declares and binds some, so that much can be done from the first step on.
func (p *play) begin() {
	for range 12 {
		p.declare()
		p.ways()
		p.bind()
		p.bind()
		p.consume()
	}
}

// compare: all that the store tells is what the model has.
func (p *play) compare() {
	words := []string{}
	for _, name := range p.store.Names() {
		words = append(words, fmt.Sprint(name, p.store.Ready(name), p.store.Guests(name)))
	}
	if got, want := fmt.Sprint(p.store.Now(), p.store.Slab().Live(), words), p.model.told(); got != want {
		p.Fatalf("%s; want %s", got, want)
	}
	for h, n := range p.model.held {
		if p.store.Slab().Count(h) != n {
			p.Fatalf("%d is held %d times; want %d", h, p.store.Slab().Count(h), n)
		}
		if n == 0 {
			delete(p.model.held, h)
		}
	}
	for _, name := range someExchanges {
		p.same("Has", p.store.Has(name), p.model.ways.Has(name))
	}
}

// somewhere: each body is held as often as it is ready or in hands, and there is no other.
func (p *play) somewhere() {
	places := map[int]int{}
	for _, name := range p.store.Names() {
		for _, e := range p.store.Ready(name) {
			places[e.Body]++
		}
	}
	for _, x := range p.hands {
		places[x.Body]++
	}
	delete(places, 0)
	for h, n := range places {
		wantCount(p.T, p.store, h, n)
	}
	if n := p.store.Slab().Live(); n != len(places) {
		p.Fatalf("%d live; want %d", n, len(places))
	}
}

// P19.1 to P19.4: whatever is done, a store is what the model is, and each message is
// somewhere, or it is done; with all queues gone and nothing in hands all is free.
func TestAsTheModel(t *testing.T) {
	errors, moved, deaths := map[api.Errno]int{}, map[string]int{}, 0
	for seed := range 200 {
		p := newPlay(t, 1900+seed)
		p.begin()
		for range 600 {
			p.step()
			p.compare()
			p.somewhere()
		}
		for _, name := range p.store.Names() {
			p.store.Delete(name, 0, p.model.named(name).conn)
		}
		p.somewhere()
		for _, x := range p.hands {
			p.store.Done(x.Entry)
		}
		if s := p.store.Slab(); s.Live() != 0 || s.Free() != api.MaxRoom {
			t.Fatalf("%d live", s.Live())
		}
		for e, n := range p.errors {
			errors[e] += n
		}
		for what, n := range p.moved {
			moved[what] += n
		}
		deaths += p.model.deaths
	}
	for _, e := range []api.Errno{api.OK, api.NotFound, api.Locked, api.Failed, api.Refused, api.Resource} {
		if errors[e] < 20 {
			t.Errorf("%v came %d times", e, errors[e])
		}
	}
	for _, what := range []string{"published true", "published false", "taken", "picked", "back", "dead", "deleted"} {
		if moved[what] < 100 {
			t.Errorf("%s: %d times", what, moved[what])
		}
	}
	if deaths < 3000 {
		t.Errorf("%d went on", deaths)
	}
}
