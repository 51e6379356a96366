package method_test

import (
	"math"
	"slices"
	"strings"
	"testing"

	"mailcoach/api"
	"mailcoach/method"
)

// kind: what the chapter says of a method's kind.
type kind struct {
	name           string
	texts, numbers int
	bits, client   bool
}

// kinds: all of them, in their order, from 1 on.
var kinds = []kind{
	{"Start", 0, 0, false, false},
	{"StartOk", 1, 0, false, true},
	{"Tune", 0, 3, false, false},
	{"TuneOk", 0, 3, false, true},
	{"Open", 1, 0, false, true},
	{"OpenOk", 0, 0, false, false},
	{"Close", 1, 1, false, true},
	{"CloseOk", 0, 0, false, true},
	{"ChOpen", 0, 0, false, true},
	{"ChOpenOk", 0, 0, false, false},
	{"ChClose", 1, 1, false, true},
	{"ChCloseOk", 0, 0, false, true},
	{"ExDeclare", 2, 0, true, true},
	{"ExDeclareOk", 0, 0, false, false},
	{"ExDelete", 1, 0, true, true},
	{"ExDeleteOk", 0, 0, false, false},
	{"QDeclare", 3, 3, true, true},
	{"QDeclareOk", 1, 2, false, false},
	{"QBind", 3, 0, false, true},
	{"QBindOk", 0, 0, false, false},
	{"QUnbind", 3, 0, false, true},
	{"QUnbindOk", 0, 0, false, false},
	{"QPurge", 1, 0, false, true},
	{"QPurgeOk", 0, 1, false, false},
	{"QDelete", 1, 0, true, true},
	{"QDeleteOk", 0, 1, false, false},
	{"Qos", 0, 1, false, true},
	{"QosOk", 0, 0, false, false},
	{"Consume", 2, 0, true, true},
	{"ConsumeOk", 1, 0, false, false},
	{"Cancel", 1, 0, false, true},
	{"CancelOk", 1, 0, false, false},
	{"Publish", 2, 0, true, true},
	{"Return", 2, 1, false, false},
	{"Deliver", 3, 1, true, false},
	{"Get", 1, 0, true, true},
	{"GetOk", 2, 2, true, false},
	{"GetEmpty", 0, 0, false, false},
	{"Ack", 0, 1, true, true},
	{"Reject", 0, 1, true, true},
	{"Nack", 0, 1, true, true},
	{"Confirm", 0, 0, false, true},
	{"ConfirmOk", 0, 0, false, false},
	{"TxSelect", 0, 0, false, true},
	{"TxSelectOk", 0, 0, false, false},
	{"TxCommit", 0, 0, false, true},
	{"TxCommitOk", 0, 0, false, false},
	{"TxRollback", 0, 0, false, true},
	{"TxRollbackOk", 0, 0, false, false},
}

// none: kinds that are none, among them some whose lowest bytes are a kind's.
var none = []int{
	math.MinInt, math.MinInt + 1, -65536, -256, -49, -2, -1, 0, 50, 51, 99, 255, 256, 257, 262, 1 << 15, 65535, 65536, 65537,
	1 << 32, 1<<32 + 2, 1<<56 + 6, math.MaxInt - 1, math.MaxInt,
}

// texts and numbers: those that may be, the ends among them.
var (
	texts   = []string{"", "a", "hello", "\x00", "\xff\xfe", "ä.*.#", strings.Repeat("l", 254), strings.Repeat("\xce", 255)}
	numbers = []int{0, 1, 255, 256, 258, 65535, 65536, 1<<31 - 1, 1 << 31, 4294967294, 4294967295}
)

// dice is a row of numbers that look like any.
type dice uint64

// below is the next number, from 0 below n.
func (d *dice) below(n int) int {
	*d = *d*6364136223846793005 + 1442695040888963407
	return int(*d>>33) % n
}

// method is a method of a kind, with any of texts, numbers, bits.
func (d *dice) method(number int) api.Method {
	m, k := api.Method{Kind: number}, kinds[number-1]
	for range k.texts {
		m.S = append(m.S, texts[d.below(len(texts))])
	}
	for range k.numbers {
		m.N = append(m.N, numbers[d.below(len(numbers))])
	}
	if k.bits {
		m.Bits = d.below(256)
	}
	return m
}

// num is a number's bytes, the highest first.
func num(n, bytes int) string {
	s := ""
	for i := bytes - 1; i >= 0; i-- {
		s += string([]byte{byte(n >> (8 * i))})
	}
	return s
}

// raw is the bytes of a method that Is, by the chapter's words.
func raw(m api.Method) string {
	s := num(m.Kind, 2)
	for _, t := range m.S {
		s += num(len(t), 1) + t
	}
	for _, n := range m.N {
		s += num(n, 4)
	}
	if kinds[m.Kind-1].bits {
		s += num(m.Bits, 1)
	}
	return s
}

// plain reads bytes by the chapter's words.
func plain(s string) (api.Method, api.Errno) {
	if len(s) < 2 {
		return api.Method{}, api.SyntaxError
	}
	m := api.Method{Kind: int(s[0])<<8 + int(s[1])}
	if m.Kind < 1 || m.Kind > len(kinds) {
		return api.Method{}, api.Unknown
	}
	k, lacks := kinds[m.Kind-1], false
	s = s[2:]
	cut := func(n int) string {
		if lacks = lacks || len(s) < n; lacks {
			return strings.Repeat("\x00", n)
		}
		b := s[:n]
		s = s[n:]
		return b
	}
	for range k.texts {
		m.S = append(m.S, cut(int(cut(1)[0])))
	}
	for range k.numbers {
		b := cut(4)
		m.N = append(m.N, int(b[0])<<24+int(b[1])<<16+int(b[2])<<8+int(b[3]))
	}
	if k.bits {
		m.Bits = int(cut(1)[0])
	}
	if lacks || s != "" {
		return api.Method{}, api.SyntaxError
	}
	return m, api.OK
}

// equal: every field of both is the same; a nil list and an empty one are.
func equal(a, b api.Method) bool {
	return a.Kind == b.Kind && a.Bits == b.Bits && slices.Equal(a.S, b.S) && slices.Equal(a.N, b.N)
}

func wantIs(t *testing.T, m api.Method) {
	t.Helper()
	if got := method.Bytes(m); !method.Is(m) || got != raw(m) {
		t.Fatalf("%.80v: Is %v, Bytes %.80q; want %.80q", m, method.Is(m), got, raw(m))
	}
}

func wantIsNot(t *testing.T, m api.Method) {
	t.Helper()
	if got := method.Bytes(m); method.Is(m) || got != "" {
		t.Fatalf("%.80v: Is %v, Bytes %.80q; want neither", m, method.Is(m), got)
	}
}

func wantRead(t *testing.T, s string, want api.Method) {
	t.Helper()
	if m, e := method.Read(s); !equal(m, want) || e != api.OK {
		t.Fatalf("Read(%.80q): %.80v, %v; want %.80v", s, m, e, want)
	}
}

// wantNoRead: an error, and nothing beside it.
func wantNoRead(t *testing.T, s string, want api.Errno) {
	t.Helper()
	if m, e := method.Read(s); m.Kind != 0 || len(m.S) != 0 || len(m.N) != 0 || m.Bits != 0 || e != want {
		t.Fatalf("Read(%.80q): %.80v, %v; want %v", s, m, e, want)
	}
}

func wantSame(t *testing.T, a, b api.Method, want bool) {
	t.Helper()
	if method.Same(a, b) != want || method.Same(b, a) != want {
		t.Fatalf("Same(%.80v, %.80v): %v, the other way round %v; want %v", a, b, method.Same(a, b), method.Same(b, a), want)
	}
}

// P8.1: Shape: how many texts, numbers, whether there are bits, of every kind; false
// and zeros of what is none.
func TestShape(t *testing.T) {
	if len(kinds) != api.TxRollbackOk {
		t.Fatalf("%d kinds; want %d", len(kinds), api.TxRollbackOk)
	}
	for i, k := range kinds {
		if s, n, bits, ok := method.Shape(i + 1); s != k.texts || n != k.numbers || bits != k.bits || !ok {
			t.Errorf("Shape of %s: %d, %d, %v, %v; want %d, %d, %v", k.name, s, n, bits, ok, k.texts, k.numbers, k.bits)
		}
	}
	for _, n := range none {
		if s, x, bits, ok := method.Shape(n); s != 0 || x != 0 || bits || ok {
			t.Errorf("Shape(%d): %d, %d, %v, %v", n, s, x, bits, ok)
		}
	}
}

// P8.1: Client: those that the chapter names, by their names in package api too, and
// no others.
func TestClient(t *testing.T) {
	for i, k := range kinds {
		if got := method.Client(i + 1); got != k.client {
			t.Errorf("Client of %s: %v", k.name, got)
		}
	}
	named := []int{
		api.StartOk, api.TuneOk, api.Open, api.Close, api.CloseOk, api.ChOpen, api.ChClose, api.ChCloseOk, api.ExDeclare, api.ExDelete,
		api.QDeclare, api.QBind, api.QUnbind, api.QPurge, api.QDelete, api.Qos, api.Consume, api.Cancel, api.Publish, api.Get, api.Ack,
		api.Reject, api.Nack, api.Confirm, api.TxSelect, api.TxCommit, api.TxRollback,
	}
	for n := -1; n < 300; n++ {
		if got := method.Client(n); got != slices.Contains(named, n) {
			t.Errorf("Client(%d): %v", n, got)
		}
	}
	for _, n := range none {
		if method.Client(n) {
			t.Errorf("Client(%d)", n)
		}
	}
}

// P8.2: Bytes, written out; the chapter's example is the first.
func TestBytes(t *testing.T) {
	for _, x := range []struct {
		m    api.Method
		want string
	}{
		{api.Method{Kind: api.OpenOk}, "\x00\x06"},
		{api.Method{Kind: api.Start, S: []string{}, N: []int{}}, "\x00\x01"},
		{api.Method{Kind: api.TxRollbackOk}, "\x00\x31"},
		{api.Method{Kind: api.StartOk, S: []string{"guest"}}, "\x00\x02\x05guest"},
		{api.Method{Kind: api.Open, S: []string{""}}, "\x00\x05\x00"},
		{api.Method{Kind: api.Tune, N: []int{3, 4096, 0}}, "\x00\x03\x00\x00\x00\x03\x00\x00\x10\x00\x00\x00\x00\x00"},
		{api.Method{Kind: api.Close, N: []int{502}, S: []string{"no"}}, "\x00\x07\x02no\x00\x00\x01\xf6"},
		{api.Method{Kind: api.ExDeclare, S: []string{"e", "topic"}, Bits: 2}, "\x00\x0d\x01e\x05topic\x02"},
		{api.Method{Kind: api.QDeclare, S: []string{"q", "", "key"}, N: []int{1, 258, 4294967295}, Bits: 7},
			"\x00\x11\x01q\x00\x03key\x00\x00\x00\x01\x00\x00\x01\x02\xff\xff\xff\xff\x07"},
		{api.Method{Kind: api.QDeclareOk, S: []string{"q"}, N: []int{1, 2}}, "\x00\x12\x01q\x00\x00\x00\x01\x00\x00\x00\x02"},
		{api.Method{Kind: api.QBind, S: []string{"q", "e", "a.*"}}, "\x00\x13\x01q\x01e\x03a.*"},
		{api.Method{Kind: api.Qos, N: []int{0x01020304}}, "\x00\x1b\x01\x02\x03\x04"},
		{api.Method{Kind: api.Return, N: []int{312}, S: []string{"e", "k"}}, "\x00\x22\x01e\x01k\x00\x00\x01\x38"},
		{api.Method{Kind: api.Deliver, S: []string{"t", "e", "k"}, N: []int{9}, Bits: 1}, "\x00\x23\x01t\x01e\x01k\x00\x00\x00\x09\x01"},
		{api.Method{Kind: api.GetOk, S: []string{"e", "k"}, N: []int{5, 6}}, "\x00\x25\x01e\x01k\x00\x00\x00\x05\x00\x00\x00\x06\x00"},
		{api.Method{Kind: api.Ack, N: []int{1}, Bits: 255}, "\x00\x27\x00\x00\x00\x01\xff"},
	} {
		if got := method.Bytes(x.m); got != x.want {
			t.Errorf("Bytes(%v): %q; want %q", x.m, got, x.want)
		}
		wantIs(t, x.m)
		wantRead(t, x.want, x.m)
	}
}

// P8.2: Is: a kind; of each kind as many texts and numbers as it has, no more and no
// fewer, however the kind would be without them.
func TestIsCounts(t *testing.T) {
	for i, k := range kinds {
		for s := range 6 {
			for n := range 6 {
				m := api.Method{Kind: i + 1, S: make([]string, s), N: make([]int, n)}
				if s == k.texts && n == k.numbers {
					wantIs(t, m)
				} else {
					wantIsNot(t, m)
				}
			}
		}
		wantIsNot(t, api.Method{Kind: i + 1, S: make([]string, k.texts+256), N: make([]int, k.numbers)})
		wantIsNot(t, api.Method{Kind: i + 1, S: make([]string, k.texts), N: make([]int, k.numbers+256)})
	}
	for _, n := range none {
		wantIsNot(t, api.Method{Kind: n})
		wantIsNot(t, api.Method{Kind: n, S: []string{"a"}, N: []int{1}, Bits: 1})
	}
}

// P8.2: Is: each text at most 255 bytes, each number from 0 to 4294967295, be it the
// first one or the last one.
func TestIsParts(t *testing.T) {
	d := dice(81)
	long := []string{strings.Repeat("l", 256), strings.Repeat("l", 257), strings.Repeat("ä", 128), strings.Repeat("l", 512), strings.Repeat("l", 1<<17)}
	large := []int{math.MinInt, math.MinInt + 1, -1 << 32, -4294967295, -2, -1, 4294967296, 4294967297, 1 << 40, 1 << 56, math.MaxInt}
	for i := range kinds {
		m := d.method(i + 1)
		for at := range m.S {
			for _, s := range texts {
				m.S[at] = s
				wantIs(t, m)
			}
			for _, s := range long {
				m.S[at] = s
				wantIsNot(t, m)
			}
			m.S[at] = strings.Repeat("ä", 127)
			wantIs(t, m)
		}
		for at := range m.N {
			for _, n := range large {
				m.N[at] = n
				wantIsNot(t, m)
			}
			for _, n := range numbers {
				m.N[at] = n
				wantIs(t, m)
			}
		}
	}
}

// P8.2: Is: Bits from 0 to 255; 0 where there are none.
func TestIsBits(t *testing.T) {
	d := dice(82)
	for i, k := range kinds {
		m := d.method(i + 1)
		for b := range 256 {
			if m.Bits = b; b == 0 || k.bits {
				wantIs(t, m)
			} else {
				wantIsNot(t, m)
			}
		}
		for _, b := range []int{math.MinInt, -256, -255, -1, 256, 257, 512, 1 << 32, 1<<32 + 1, math.MaxInt} {
			m.Bits = b
			wantIsNot(t, m)
		}
	}
}

// P8.2: Same: the same kind, texts, numbers and bits, each in its place; a nil list
// and an empty one are the same.
func TestSame(t *testing.T) {
	d := dice(83)
	for i := range kinds {
		m := d.method(i + 1)
		wantSame(t, m, m, true)
		wantSame(t, m, api.Method{Kind: m.Kind, S: slices.Clone(m.S), N: slices.Clone(m.N), Bits: m.Bits}, true)
		for at := range m.S {
			x := api.Method{Kind: m.Kind, S: slices.Clone(m.S), N: m.N, Bits: m.Bits}
			x.S[at] += "x"
			wantSame(t, m, x, false)
		}
		for at := range m.N {
			x := api.Method{Kind: m.Kind, S: m.S, N: slices.Clone(m.N), Bits: m.Bits}
			x.N[at]++
			wantSame(t, m, x, false)
		}
		wantSame(t, m, api.Method{Kind: m.Kind + 1, S: m.S, N: m.N, Bits: m.Bits}, false)
		wantSame(t, m, api.Method{Kind: m.Kind, S: m.S, N: m.N, Bits: m.Bits + 1}, false)
		wantSame(t, m, api.Method{Kind: m.Kind, S: append(slices.Clone(m.S), ""), N: m.N, Bits: m.Bits}, false)
		wantSame(t, m, api.Method{Kind: m.Kind, S: m.S, N: append(slices.Clone(m.N), 0), Bits: m.Bits}, false)
	}
	wantSame(t, api.Method{Kind: api.OpenOk}, api.Method{Kind: api.OpenOk, S: []string{}, N: []int{}}, true)
	wantSame(t, api.Method{Kind: api.OpenOk}, api.Method{Kind: api.CloseOk}, false)
	wantSame(t, api.Method{Kind: api.QBind, S: []string{"a", "b", "c"}}, api.Method{Kind: api.QBind, S: []string{"b", "a", "c"}}, false)
	wantSame(t, api.Method{Kind: api.QBind, S: []string{"a", "b", ""}}, api.Method{Kind: api.QBind, S: []string{"ab", "", ""}}, false)
	wantSame(t, api.Method{Kind: api.Tune, N: []int{1, 2, 3}}, api.Method{Kind: api.Tune, N: []int{3, 2, 1}}, false)
}

// P8.2: Same of what isn't Is: still what is the same, field by field; never one
// that Is and one that isn't.
func TestSameOfNone(t *testing.T) {
	ack := api.Method{Kind: api.Ack, N: []int{3}, Bits: 1}
	l := []api.Method{
		{}, {Kind: -1}, {Kind: 50}, {Kind: 50, S: []string{""}}, {Kind: api.Ack, Bits: 1}, {Kind: api.Ack, N: []int{3}, Bits: 257},
		{Kind: api.Ack, N: []int{3}, Bits: -255}, {Kind: api.Ack, N: []int{3 + 1<<32}, Bits: 1}, {Kind: api.Ack, N: []int{-1}, Bits: 1},
		{Kind: api.Ack + 1<<16, N: []int{3}, Bits: 1}, {Kind: api.Ack, N: []int{3}, Bits: 1, S: []string{""}}, {Kind: api.OpenOk, Bits: 1},
		{Kind: api.StartOk, S: []string{strings.Repeat("l", 256)}}, {Kind: api.StartOk, S: []string{strings.Repeat("l", 257)}},
	}
	for i, a := range l {
		wantIsNot(t, a)
		wantSame(t, a, ack, false)
		for j, b := range l {
			wantSame(t, a, b, i == j)
		}
	}
}

// P8.2: Read: SyntaxError of fewer than two bytes, whatever they are.
func TestReadShort(t *testing.T) {
	wantNoRead(t, "", api.SyntaxError)
	for b := range 256 {
		wantNoRead(t, string([]byte{byte(b)}), api.SyntaxError)
	}
}

// P8.2: Read: of all that two bytes can tell, Unknown of a kind that is none, also
// where bytes lack or are left; else SyntaxError with fewer bytes or more than the
// kind's.
func TestReadKinds(t *testing.T) {
	for n := range 65536 {
		b := num(n, 2)
		if n < 1 || n > len(kinds) {
			wantNoRead(t, b, api.Unknown)
			wantNoRead(t, b+"\x00", api.Unknown)
			wantNoRead(t, b+"\xff\xff", api.Unknown)
			continue
		}
		if k := kinds[n-1]; k.texts+k.numbers == 0 && !k.bits {
			wantRead(t, b, api.Method{Kind: n})
		} else {
			wantNoRead(t, b, api.SyntaxError)
		}
		wantNoRead(t, b+strings.Repeat("\x00", 40), api.SyntaxError)
	}
}

// P8.2, P8.3: what is told is read; SyntaxError, if bytes lack, however many, or are
// left, however many.
func TestReadCuts(t *testing.T) {
	d := dice(84)
	for i := range kinds {
		for range 20 {
			m := d.method(i + 1)
			b := method.Bytes(m)
			wantRead(t, b, m)
			for at := range b {
				wantNoRead(t, b[:at], api.SyntaxError)
			}
			for _, more := range []string{"\x00", "\xff", "\x00\x06", b, strings.Repeat("\x00", 4), strings.Repeat("m", 1<<12)} {
				wantNoRead(t, b+more, api.SyntaxError)
			}
		}
	}
}

// P8.3: every text, number and bits that a method may have is told and read, and the
// method that is read Is and is Same.
func TestToldIsRead(t *testing.T) {
	d := dice(85)
	for range 20000 {
		m := d.method(1 + d.below(len(kinds)))
		wantIs(t, m)
		x, e := method.Read(method.Bytes(m))
		if !equal(x, m) || !method.Is(x) || !method.Same(x, m) || e != api.OK {
			t.Fatalf("%.80v is read as %.80v, %v", m, x, e)
		}
	}
	for n := range 256 {
		m := api.Method{Kind: api.QDelete, S: []string{strings.Repeat("t", n)}, Bits: n}
		wantIs(t, m)
		wantRead(t, method.Bytes(m), m)
	}
	for n := range 1 << 16 {
		m := api.Method{Kind: api.Qos, N: []int{n<<16 | 65535 - n}}
		wantIs(t, m)
		wantRead(t, method.Bytes(m), m)
	}
}

// P8.2, P8.3: whatever bytes come: what is read is what the chapter's words say, and
// the bytes are its Bytes.
func TestAnyBytes(t *testing.T) {
	d := dice(86)
	read := 0
	for range 200000 {
		b := []byte(num(d.below(len(kinds)+2), 2))
		for range d.below(24) {
			b = append(b, byte(d.below(4))) // few, so that texts are whole at times
		}
		s := string(b)
		want, wantE := plain(s)
		m, e := method.Read(s)
		if !equal(m, want) || e != wantE {
			t.Fatalf("Read(%q): %v, %v; want %v, %v", s, m, e, want, wantE)
		}
		if e != api.OK {
			continue
		}
		read++
		if method.Bytes(m) != s || !method.Is(m) {
			t.Fatalf("Bytes of what is read of %q: %q", s, method.Bytes(m))
		}
	}
	if read < 1000 {
		t.Fatalf("only %d of any bytes are methods", read)
	}
}

// P8.2: any byte of a method changed: read as the chapter's words say.
func TestOtherBytes(t *testing.T) {
	d := dice(87)
	for i := range kinds {
		for range 40 {
			b := []byte(method.Bytes(d.method(i + 1)))
			b[d.below(len(b))] = byte(d.below(256))
			want, wantE := plain(string(b))
			if m, e := method.Read(string(b)); !equal(m, want) || e != wantE {
				t.Fatalf("Read(%.80q): %.80v, %v; want %.80v, %v", b, m, e, want, wantE)
			}
		}
	}
}

// P8.2: what is handed in isn't changed, the spare room behind it neither.
func TestHandedInStays(t *testing.T) {
	s, n := []string{"q", "", "key", "spare"}, []int{1, 2, 3, 4}
	m := api.Method{Kind: api.QDeclare, S: s[:3], N: n[:3], Bits: 1}
	wantIs(t, m)
	wantSame(t, m, m, true)
	wantRead(t, method.Bytes(m), m)
	if !slices.Equal(s, []string{"q", "", "key", "spare"}) || !slices.Equal(n, []int{1, 2, 3, 4}) {
		t.Fatalf("changed: %q, %v", s, n)
	}
}

// P8.2: what Read answers is new memory, its spare room too.
func TestReadIsNew(t *testing.T) {
	want := api.Method{Kind: api.QDeclare, S: []string{"q", "", "key"}, N: []int{1, 258, 4294967295}, Bits: 7}
	b := raw(want)
	a, _ := method.Read(b)
	c, _ := method.Read(b)
	for i := range a.S[:cap(a.S)] {
		a.S[:cap(a.S)][i] = "no"
	}
	for i := range a.N[:cap(a.N)] {
		a.N[:cap(a.N)][i] = 9
	}
	if !equal(c, want) {
		t.Fatalf("one answer is touched by what is done with another one: %v", c)
	}
	wantRead(t, b, want)
}

// P8.2: a great many texts, or long bytes, that are no method: there is an answer.
func TestMuchThatIsNone(t *testing.T) {
	wantIsNot(t, api.Method{Kind: api.StartOk, S: make([]string, 1<<20)})
	wantIsNot(t, api.Method{Kind: api.Qos, N: make([]int, 1<<20)})
	wantIsNot(t, api.Method{Kind: api.StartOk, S: []string{strings.Repeat("l", 1<<24)}})
	wantNoRead(t, "\x00\x02"+strings.Repeat("\xff", 1<<24), api.SyntaxError)
	wantNoRead(t, strings.Repeat("\x00", 1<<24), api.Unknown)
}
