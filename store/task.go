package store

import "mailcoach/api"

// A task is something that is still to be done with messages: mail, dead or owed.
type task interface {
	// step does one thing of the task. It lays what is left of the task behind the rest, and
	// behind that what has to be done ahead of it.
	step(s *Store, rest []task) []task
}

// Publish: see the chapter.
func (s *Store) Publish(e api.Entry) (bool, int) {
	m := s.newMail(e)
	routed := len(m.to)
	s.run(m)
	return !m.refused, routed
}

// Done: see the chapter.
func (s *Store) Done(e api.Entry) { s.letGo(e.Body) }

// Back: see the chapter.
func (s *Store) Back(queue int, e api.Entry) {
	p := s.numbered(queue)
	if p == nil || !p.queue.Back(e) {
		s.Done(e)
	}
}

// Dead: see the chapter.
func (s *Store) Dead(queue int, e api.Entry) {
	p := s.numbered(queue)
	if p == nil {
		s.Done(e)
		return
	}
	s.run(&dead{p, []api.Entry{e}})
}

// run does a task and whatever comes of it, the last one of the rest first. The rest lies
// in a row, not in calls within calls: how deep dead messages drive out one another hangs
// on their Hops, and these may come in far below 0.
func (s *Store) run(t task) {
	rest := []task{t}
next:
	if len(rest) == 0 {
		return
	}
	last := len(rest) - 1
	rest = rest[last].step(s, rest[:last])
	goto next
}

// mail is a message on its way to queues.
type mail struct {
	entry   api.Entry
	to      []*place // where it wasn't put yet
	refused bool     // a queue didn't take it
}

// newMail is a message with an ID of its own, on its way to all queues that it is routed to.
func (s *Store) newMail(e api.Entry) *mail {
	s.lastID++
	e.ID = s.lastID
	m := &mail{entry: e}
	names, _ := s.exchanges().Route(e.Exchange, e.Key)
	at := 0
walk:
	if at == len(names) {
		return m
	}
	if p := s.named(names[at]); p != nil {
		m.to = append(m.to, p)
	}
	at++
	goto walk
}

// step puts the message into one queue; what goes from there for it is dead.
func (m *mail) step(s *Store, rest []task) []task {
	if len(m.to) == 0 {
		return rest
	}
	p := m.to[0]
	m.to = m.to[1:]
	if len(m.to) > 0 {
		rest = append(rest, m)
	}
	s.hold(m.entry.Body)
	taken, went := p.queue.Put(m.entry, s.now)
	if !taken {
		m.refused = true
		s.letGo(m.entry.Body)
	}
	return append(rest, &dead{p, went})
}

// dead are messages that went from a queue, and aren't done.
type dead struct {
	from *place
	all  []api.Entry // in the order in which they are laid to rest
}

// step lays one message to rest: it is done, or goes on as a new one and is done then.
func (d *dead) step(s *Store, rest []task) []task {
	if len(d.all) == 0 {
		return rest
	}
	e := d.all[0]
	d.all = d.all[1:]
	if len(d.all) > 0 {
		rest = append(rest, d)
	}
	rest = append(rest, owed(e.Body))
	if next, ok := s.letter(d.from, e); ok {
		rest = append(rest, s.newMail(next))
	}
	return rest
}

// letter is what becomes of a dead message of a queue; false, if nothing does.
func (s *Store) letter(from *place, e api.Entry) (api.Entry, bool) {
	o := from.queue.Options()
	if o.Dead == "" && o.DeadKey == "" || e.Hops >= api.MaxHops || !s.Has(o.Dead) {
		return api.Entry{}, false
	}
	e.Exchange = o.Dead
	if o.DeadKey != "" {
		e.Key = o.DeadKey
	}
	e.TTL = 0
	e.Again = false
	e.Hops++
	return e, true
}

// owed is a body that is to be let go once.
type owed int

// step lets the body go.
func (o owed) step(s *Store, rest []task) []task {
	s.letGo(int(o))
	return rest
}

// hold holds a body once more, if there is one.
func (s *Store) hold(body int) {
	if body > 0 {
		s.Slab().Hold(body)
	}
}

// letGo holds a body once less, if there is one.
func (s *Store) letGo(body int) {
	if body > 0 {
		s.Slab().Drop(body)
	}
}
