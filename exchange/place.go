package exchange

import (
	"strings"

	"mailcoach/api"
)

// A place is one exchange that was declared.
type place struct {
	name string
	kind int
	auto bool  // it goes with its last binding
	keys *keys // of a Topic alone
}

// newPlace makes an exchange with a name of its own memory: a short name that is cut
// from a long text shouldn't keep that.
func newPlace(name string, kind, bits int) *place {
	p := &place{name: strings.Clone(name), kind: kind, auto: auto(bits)}
	if kind == api.Topic {
		p.keys = newKeys()
	}
	return p
}

// is tells whether a declaration with that kind, those bits is of this exchange.
func (p *place) is(kind, bits int) bool { return p.kind == kind && p.auto == auto(bits) }

// auto tells of a declaration's bits the only one that counts.
func auto(bits int) bool { return bits&api.AutoDelete != 0 }

func isKind(kind int) bool { return kind == api.Direct || kind == api.Fanout || kind == api.Topic }
