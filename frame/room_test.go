package frame

import (
	"strings"
	"testing"

	"mailcoach/api"
)

// wantRoom: not much more is held than what is left.
func wantRoom(t *testing.T, p *Parser) {
	t.Helper()
	if n := cap(p.bytes); n > 5*p.Left()+64 {
		t.Fatalf("room of %d bytes for %d that are left", n, p.Left())
	}
}

// P7.1: a parser that was fed much once doesn't hold its bytes for ever, nor does one
// that goes on with some left.
func TestRoomFollowsWhatIsLeft(t *testing.T) {
	const count = 1 << 13
	f := api.Frame{Kind: api.FBody, Chan: 1, Data: "abcd"}
	b := Bytes(f)
	p := New(64)
	for range count {
		p.Feed(b)
	}
	for range 10 * count {
		p.Feed(b)
		p.Next()
		wantRoom(t, p)
	}
	for p.Left() > 0 {
		p.Next()
		wantRoom(t, p)
	}
	p.Feed(strings.Repeat(b, count) + b[:5])
	for range count {
		p.Next()
	}
	wantRoom(t, p)
}

// P7.1: behind an error nothing is held, whatever is fed.
func TestNoRoomBehindAnError(t *testing.T) {
	p := New(64)
	p.Feed(strings.Repeat("\x00", 1<<16))
	p.Next()
	for range 100 {
		p.Feed(strings.Repeat("\x01", 1<<10))
		if cap(p.bytes) != 0 || p.told != 0 {
			t.Fatalf("room of %d bytes behind an error", cap(p.bytes))
		}
	}
}

// P7.1: a Parser that New didn't make doesn't panic.
func TestParserWithoutNew(t *testing.T) {
	p := &Parser{}
	p.Feed(Bytes(api.Frame{Kind: api.FBeat}))
	p.Next()
	p.Feed("more")
	p.Next()
	p.Left()
}
