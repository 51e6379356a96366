package exchange_test

import (
	"slices"
	"strconv"
	"strings"
	"testing"

	"mailcoach/api"
	"mailcoach/exchange"
	"mailcoach/pattern"
)

// dice is a row of numbers that look like any.
type dice uint64

// below is the next number, from 0 below n.
func (d *dice) below(n int) int {
	*d = *d*6364136223846793005 + 1442695040888963407
	return int(*d>>33) % n
}

func (d *dice) of(all []string) string { return all[d.below(len(all))] }

// declared is an exchange of a model.
type declared struct {
	name string
	kind int
	auto bool
}

// model does by the chapter's words what exchanges do, with two plain lists.
type model struct {
	all  []declared
	rows []api.Binding
}

func (m *model) at(name string) int {
	return slices.IndexFunc(m.all, func(p declared) bool { return p.name == name })
}

func (m *model) named(name string) api.Errno {
	switch {
	case name == "":
		return api.Refused
	case m.at(name) < 0:
		return api.NotFound
	}
	return api.OK
}

func (m *model) declare(name string, kind, bits int) api.Errno {
	p := declared{name, kind, bits&api.AutoDelete == api.AutoDelete}
	at := m.at(name)
	switch {
	case name == "":
		return api.Refused
	case !pattern.IsName(name), kind < api.Direct, kind > api.Topic, at >= 0 && m.all[at] != p:
		return api.Failed
	case at < 0 && len(m.all) == api.MaxExch:
		return api.Resource
	case at < 0:
		m.all = append(m.all, p)
	}
	return api.OK
}

func (m *model) remove(name string, bits int) api.Errno {
	if e := m.named(name); e != api.OK {
		return e
	}
	if bits&api.IfUnused != 0 && len(m.of(name)) > 0 {
		return api.Failed
	}
	m.all = slices.Delete(m.all, m.at(name), m.at(name)+1)
	m.rows = slices.DeleteFunc(m.rows, func(b api.Binding) bool { return b.Exchange == name })
	return api.OK
}

func (m *model) bind(b api.Binding) api.Errno {
	if e := m.named(b.Exchange); e != api.OK {
		return e
	}
	switch {
	case !pattern.IsKey(b.Key):
		return api.Failed
	case slices.Contains(m.rows, b):
		return api.OK
	case len(m.rows) == api.MaxBinds:
		return api.Resource
	}
	m.rows = append(m.rows, b)
	return api.OK
}

func (m *model) unbind(b api.Binding) api.Errno {
	if e := m.named(b.Exchange); e != api.OK {
		return e
	}
	m.cut(func(row api.Binding) bool { return row == b })
	return api.OK
}

// cut takes out the bindings that are so, and the exchanges that go with them.
func (m *model) cut(are func(api.Binding) bool) {
	old := slices.Clone(m.rows)
	m.rows = slices.DeleteFunc(m.rows, are)
	for _, b := range old {
		if at := m.at(b.Exchange); at >= 0 && are(b) && m.all[at].auto && len(m.of(b.Exchange)) == 0 {
			m.all = slices.Delete(m.all, at, at+1)
		}
	}
}

func (m *model) of(name string) []api.Binding {
	return slices.DeleteFunc(slices.Clone(m.rows), func(b api.Binding) bool { return b.Exchange != name })
}

func (m *model) route(name, key string) ([]string, bool) {
	at := m.at(name)
	switch {
	case name == "":
		return []string{key}, true
	case at < 0:
		return nil, false
	}
	var names []string
	for _, b := range m.of(name) {
		goes := m.all[at].kind == api.Fanout || m.all[at].kind == api.Direct && b.Key == key || m.all[at].kind == api.Topic && pattern.Match(b.Key, key)
		if goes && !slices.Contains(names, b.Queue) {
			names = append(names, b.Queue)
		}
	}
	return names, true
}

func (m *model) names() []string {
	var all []string
	for _, p := range m.all {
		all = append(all, p.name)
	}
	return all
}

// what random steps are made of: few of each, so that they meet.
var (
	someExchanges = []string{"", "a", "b", "c", "d", "e", "f", "g", "h", "i", "j", "no name"}
	someQueues    = []string{"q", "r", "s", "t", "u", "v", "w", ""}
	somePatterns  = []string{"", "a", "b", "*", "#", "a.b", "a.*", "*.b", "a.#", "#.b", "#.a.#", "*.*", "a.#.b", "#.#", "*.#", "a.b.c", strings.Repeat("k", 41), strings.Repeat("*.", 20), strings.Repeat("#.", 19) + "b"}
	someKeys      = []string{"", "a", "b", "c", "a.b", "b.a", "a.a", "a.b.c", "a.c.b", "b.b", "b.b.b.b", "#", "*", "a.#", strings.Repeat("a.", 30) + "b"}
)

// step does the same to both, at random; what it answers is what they answered.
func step(d *dice, x *exchange.Exchanges, m *model) (string, api.Errno, api.Errno) {
	name, bits := d.of(someExchanges), d.below(16)
	b := api.Binding{Exchange: name, Queue: d.of(someQueues), Key: d.of(somePatterns)}
	what := b.Exchange + ", " + b.Queue + ", " + b.Key
	switch n := d.below(100); {
	case n < 15:
		kind := d.below(5)
		return "Declare " + name + strconv.Itoa(kind) + strconv.Itoa(bits), x.Declare(name, kind, bits), m.declare(name, kind, bits)
	case n < 19:
		return "Delete " + name + strconv.Itoa(bits), x.Delete(name, bits), m.remove(name, bits)
	case n < 80:
		return "Bind " + what, x.Bind(b), m.bind(b)
	case n < 98:
		if at := d.below(1 + 2*len(m.rows)); at < len(m.rows) {
			b = m.rows[at]
		}
		return "Unbind " + what, x.Unbind(b), m.unbind(b)
	}
	x.DropQueue(b.Queue)
	m.cut(func(row api.Binding) bool { return row.Queue == b.Queue })
	return "DropQueue " + b.Queue, api.OK, api.OK
}

// P13.1, P13.2, P13.3: whatever is done, a message goes where it is bound, and nowhere else.
func TestAsTheModel(t *testing.T) {
	answers := map[api.Errno]int{}
	ways := 0
	for seed := range 40 {
		d, x, m := dice(1300+seed), exchange.New(), &model{}
		for range 1000 {
			did, got, want := step(&d, x, m)
			if got != want {
				t.Fatalf("%s: %v; want %v", did, got, want)
			}
			answers[got]++
			wantNames(t, x, m.names()...)
			for _, name := range someExchanges {
				wantOf(t, x, name, m.of(name)...)
				wantHas(t, x, name, name == "" || m.at(name) >= 0)
				key := d.of(someKeys)
				to, ok := m.route(name, key)
				if !ok {
					wantNoRoute(t, x, name, key)
					continue
				}
				wantRoute(t, x, name, key, to...)
				ways += len(to)
			}
		}
	}
	for _, e := range []api.Errno{api.OK, api.Refused, api.NotFound, api.Failed, api.Resource} {
		if answers[e] < 100 {
			t.Errorf("%v came %d times", e, answers[e])
		}
	}
	if ways < 100000 {
		t.Errorf("%d ways only", ways)
	}
}
