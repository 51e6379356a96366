package content_test

import (
	"math"
	"strings"
	"testing"

	"mailcoach/api"
	"mailcoach/content"
)

// field: a number of a head: of how many bytes, and how much it is at most.
type field struct {
	name        string
	bytes, most int
}

// fields: by the chapter's words, the limits written out, in the order of their bytes.
var fields = []field{{"Size", 4, 200}, {"Prio", 1, 255}, {"TTL", 4, 10000}}

// odd: numbers that none of the fields may be, among them some whose lowest bytes
// would do.
var odd = []int{
	math.MinInt, math.MinInt + 1, -1 << 56, -1 << 32, -1<<32 + 1, -65536, -256, -255, -2, -1,
	10001, 65535, 65536, 1<<16 + 1, 1 << 24, 1<<31 - 1, 1 << 31, 1<<32 - 1, 1 << 32, 1<<32 + 1, 1 << 56, 1<<56 + 5, math.MaxInt - 1, math.MaxInt,
}

// dice is a row of numbers that look like any.
type dice uint64

// below is the next number, from 0 below n.
func (d *dice) below(n int) int {
	*d = *d*6364136223846793005 + 1442695040888963407
	return int(*d>>33) % n
}

// content is any head.
func (d *dice) content() api.Content {
	return api.Content{Size: d.below(201), Prio: d.below(256), TTL: d.below(10001)}
}

// with is c, but for one field.
func with(c api.Content, at, n int) api.Content {
	*[]*int{&c.Size, &c.Prio, &c.TTL}[at] = n
	return c
}

// number is a number's bytes, the highest first.
func number(n, bytes int) string {
	s := ""
	for i := bytes - 1; i >= 0; i-- {
		s += string([]byte{byte(n >> (8 * i))})
	}
	return s
}

// raw is three numbers as a head's bytes, be they ever so large.
func raw(c api.Content) string {
	s := ""
	for i, n := range []int{c.Size, c.Prio, c.TTL} {
		s += number(n, fields[i].bytes)
	}
	return s
}

// plain reads bytes by the chapter's words.
func plain(s string) (api.Content, api.Errno) {
	if len(s) != 9 {
		return api.Content{}, api.SyntaxError
	}
	size := int(s[0])<<24 + int(s[1])<<16 + int(s[2])<<8 + int(s[3])
	ttl := int(s[5])<<24 + int(s[6])<<16 + int(s[7])<<8 + int(s[8])
	if size > 200 || ttl > 10000 {
		return api.Content{}, api.SyntaxError
	}
	return api.Content{Size: size, Prio: int(s[4]), TTL: ttl}, api.OK
}

func wantIs(t *testing.T, c api.Content) {
	t.Helper()
	if got := content.Bytes(c); !content.Is(c) || got != raw(c) {
		t.Fatalf("%v: Is %v, Bytes %q; want %q", c, content.Is(c), got, raw(c))
	}
}

func wantIsNot(t *testing.T, c api.Content) {
	t.Helper()
	if got := content.Bytes(c); content.Is(c) || got != "" {
		t.Fatalf("%v: Is %v, Bytes %q; want neither", c, content.Is(c), got)
	}
}

func wantRead(t *testing.T, s string, want api.Content) {
	t.Helper()
	if c, e := content.Read(s); c != want || e != api.OK {
		t.Fatalf("Read(%q): %v, %v; want %v", s, c, e, want)
	}
}

// wantNoRead: SyntaxError, and nothing beside it.
func wantNoRead(t *testing.T, s string) {
	t.Helper()
	if c, e := content.Read(s); c != (api.Content{}) || e != api.SyntaxError {
		t.Fatalf("Read(%.80q): %v, %v; want %v", s, c, e, api.SyntaxError)
	}
}

// P9.1: Bytes, written out; the chapter's example is the first.
func TestBytes(t *testing.T) {
	for _, x := range []struct {
		c    api.Content
		want string
	}{
		{api.Content{}, "\x00\x00\x00\x00\x00\x00\x00\x00\x00"},
		{api.Content{Size: 1}, "\x00\x00\x00\x01\x00\x00\x00\x00\x00"},
		{api.Content{Prio: 1}, "\x00\x00\x00\x00\x01\x00\x00\x00\x00"},
		{api.Content{TTL: 1}, "\x00\x00\x00\x00\x00\x00\x00\x00\x01"},
		{api.Content{Size: 5, Prio: 3, TTL: 258}, "\x00\x00\x00\x05\x03\x00\x00\x01\x02"},
		{api.Content{Size: 200, Prio: 255, TTL: 10000}, "\x00\x00\x00\xc8\xff\x00\x00\x27\x10"},
		{api.Content{Size: 199, Prio: 254, TTL: 9999}, "\x00\x00\x00\xc7\xfe\x00\x00\x27\x0f"},
		{api.Content{Size: 128, Prio: 128, TTL: 256}, "\x00\x00\x00\x80\x80\x00\x00\x01\x00"},
	} {
		if got := content.Bytes(x.c); got != x.want {
			t.Errorf("Bytes(%v): %q; want %q", x.c, got, x.want)
		}
		wantIs(t, x.c)
		wantRead(t, x.want, x.c)
	}
}

// P9.1: the limits are those of package api.
func TestLimits(t *testing.T) {
	wantIs(t, api.Content{Size: api.MaxBody, TTL: api.MaxTTL})
	wantIsNot(t, api.Content{Size: api.MaxBody + 1})
	wantIsNot(t, api.Content{TTL: api.MaxTTL + 1})
	wantIs(t, api.Content{Prio: api.MaxPrio + 1}) // a queue's limit, not a head's
}

// P9.1: Is: each number from 0 to its most, whatever the others are; Bytes of one
// past that: "".
func TestIs(t *testing.T) {
	d := dice(91)
	for at, f := range fields {
		for n := range f.most + 1 {
			wantIs(t, with(api.Content{}, at, n))
			wantIs(t, with(d.content(), at, n))
		}
		for _, n := range append([]int{f.most + 1, f.most + 2, 2*f.most + 2}, odd...) {
			wantIsNot(t, with(api.Content{}, at, n))
			wantIsNot(t, with(d.content(), at, n))
			wantIsNot(t, api.Content{Size: n, Prio: n, TTL: n})
		}
	}
}

// P9.2: what is told is read: each number that a field may be, whatever the others are.
func TestToldIsRead(t *testing.T) {
	d := dice(92)
	for at, f := range fields {
		for n := range f.most + 1 {
			for _, c := range []api.Content{with(api.Content{}, at, n), with(d.content(), at, n)} {
				wantRead(t, content.Bytes(c), c)
			}
		}
	}
	for range 20000 {
		c := d.content()
		wantRead(t, content.Bytes(c), c)
	}
}

// P9.1: Read: SyntaxError of a number that is too large, which its bytes can tell, also
// where other numbers would do.
func TestReadTooLarge(t *testing.T) {
	d := dice(93)
	for at, f := range fields {
		for _, n := range []int{f.most + 1, f.most + 2, 20000, 65535, 65536, 1 << 24, 1<<24 + 1, 1<<31 - 1, 1 << 31, 1<<31 + 1, 1<<32 - 2, 1<<32 - 1} {
			if n >= 1<<(8*f.bytes) {
				continue
			}
			wantNoRead(t, raw(with(api.Content{}, at, n)))
			wantNoRead(t, raw(with(d.content(), at, n)))
		}
	}
	wantNoRead(t, strings.Repeat("\xff", 9))
}

// P9.1: Read: SyntaxError, if bytes lack, however many, or are left, however many.
func TestReadCuts(t *testing.T) {
	d := dice(94)
	for _, c := range []api.Content{{}, {Size: 200, Prio: 255, TTL: 10000}, d.content(), d.content()} {
		b := content.Bytes(c)
		wantRead(t, b, c)
		for at := range b {
			wantNoRead(t, b[:at])
		}
		for _, more := range []string{"\x00", "\xff", b, "\x00\x00\x00\x00", strings.Repeat("\x00", 255), strings.Repeat("m", 1<<24)} {
			wantNoRead(t, b+more)
			wantNoRead(t, more+b)
		}
	}
	for n := range 40 {
		if n != 9 {
			wantNoRead(t, strings.Repeat("\x00", n))
		}
	}
}

// P9.1, P9.2: each byte of a head, be it any: read as the chapter's words say.
func TestOtherBytes(t *testing.T) {
	d := dice(95)
	for _, c := range []api.Content{{}, {Size: 200, Prio: 255, TTL: 10000}, d.content()} {
		for at := range 9 {
			for n := range 256 {
				b := []byte(content.Bytes(c))
				b[at] = byte(n)
				want, wantE := plain(string(b))
				if got, e := content.Read(string(b)); got != want || e != wantE {
					t.Fatalf("Read(%q): %v, %v; want %v, %v", b, got, e, want, wantE)
				}
			}
		}
	}
}

// P9.1, P9.2: whatever bytes come: what is read is what the chapter's words say, and
// the bytes are its Bytes.
func TestAnyBytes(t *testing.T) {
	d := dice(96)
	read := 0
	for range 200000 {
		b := make([]byte, 8+d.below(3))
		for _, at := range []int{3, 4, 7, 8, d.below(len(b))} {
			if at < len(b) {
				b[at] = byte(d.below(256)) >> d.below(8)
			}
		}
		s := string(b)
		want, wantE := plain(s)
		c, e := content.Read(s)
		if c != want || e != wantE {
			t.Fatalf("Read(%q): %v, %v; want %v, %v", s, c, e, want, wantE)
		}
		if e != api.OK {
			continue
		}
		read++
		if content.Bytes(c) != s || !content.Is(c) {
			t.Fatalf("Bytes of what is read of %q: %q", s, content.Bytes(c))
		}
	}
	if read < 1000 {
		t.Fatalf("only %d of any bytes are heads", read)
	}
}
