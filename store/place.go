package store

import (
	"strings"

	"mailcoach/api"
	"mailcoach/guest"
	"mailcoach/queue"
)

// A place is one queue that was declared, with its consumers.
type place struct {
	name   string
	number int
	conn   int // who declared it
	queue  *queue.Queue
	guests *guest.Guests
}

// newPlace makes a queue with a name of its own memory: a short name that is cut from a
// long text shouldn't keep that.
func newPlace(name string, number, conn int, o api.Options) *place {
	return &place{strings.Clone(name), number, conn, queue.New(o), guest.New()}
}

func (p *place) exclusive() bool { return p.queue.Options().Bits&api.Exclusive != 0 }

func (p *place) autoDelete() bool { return p.queue.Options().Bits&api.AutoDelete != 0 }

// dismiss lets all consumers of a connection go, and answers whether there were any. It
// begins with the last one: so those behind needn't be moved again and again.
func (p *place) dismiss(conn int) bool {
	all := p.guests.All()
	at, went := len(all), false
next:
	if at == 0 {
		return went
	}
	at--
	if g := all[at]; g.Conn == conn {
		went = p.guests.Drop(g.Conn, g.Chan, g.Tag)
	}
	goto next
}
