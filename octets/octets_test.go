package octets_test

import (
	"math"
	"strings"
	"testing"

	"mailcoach/api"
	"mailcoach/octets"
)

// odd: numbers at which bytes might go wrong: the ends of all ints, and where one
// more byte is needed.
var odd = []int{
	math.MinInt, math.MinInt + 1, -1<<56 - 1, -1 << 56, -1<<48 - 1, -1 << 48, -1 << 32, -65537, -65536, -257, -256, -255, -129, -128, -2, -1,
	0, 1, 127, 128, 254, 255, 256, 257, 258, 65535, 65536, 1<<24 - 1, 1 << 24, 1<<31 - 1, 1 << 31, 1<<32 - 1, 1 << 32,
	1<<40 - 1, 1 << 40, 1<<48 - 1, 1 << 48, 1<<55 - 1, 1 << 55, 1<<56 - 1, 1 << 56, 1<<56 + 5, 0x0102030405060708, math.MaxInt - 1, math.MaxInt,
}

// widths: how many bytes may be asked for, and how many those are held to.
var widths = []struct{ bytes, held int }{
	{math.MinInt, 0}, {-256, 0}, {-8, 0}, {-1, 0}, {0, 0}, {1, 1}, {2, 2}, {3, 3}, {4, 4}, {5, 5}, {6, 6}, {7, 7},
	{8, 7}, {9, 7}, {255, 7}, {256, 7}, {1 << 32, 7}, {math.MaxInt, 7},
}

// step is the next of a row of numbers that look like any.
func step(n uint64) uint64 { return n*6364136223846793005 + 1442695040888963407 }

// number is Num by its words: byte by byte, the highest first.
func number(n, held int) string {
	var b []byte
	for i := held - 1; i >= 0; i-- {
		b = append(b, byte(uint64(n)>>(8*i)))
	}
	return string(b)
}

// lowest is what is left of a number of which only so many bytes are put.
func lowest(n, held int) int { return n & (1<<(8*held) - 1) }

// text is n bytes, no two beside each other the same, 0 and 255 among them.
func text(n int) string {
	b := make([]byte, n)
	for i := range b {
		b[i] = byte(i * 255)
	}
	return string(b)
}

func wantTake(t *testing.T, s string, bytes, n int, rest string, e api.Errno) {
	t.Helper()
	if gotN, gotRest, gotE := octets.Take(s, bytes); gotN != n || gotRest != rest || gotE != e {
		t.Fatalf("Take(%q, %d): %d, %q, %v; want %d, %q, %v", s, bytes, gotN, gotRest, gotE, n, rest, e)
	}
}

func wantText(t *testing.T, s, want string, e api.Errno) {
	t.Helper()
	if got, gotE := octets.Text(s); got != want || gotE != e {
		t.Fatalf("Text(%q): %q, %v; want %q, %v", s, got, gotE, want, e)
	}
}

func wantTakeText(t *testing.T, s string, most int, want, rest string, e api.Errno) {
	t.Helper()
	if got, gotRest, gotE := octets.TakeText(s, most); got != want || gotRest != rest || gotE != e {
		t.Fatalf("TakeText(%q, %d): %q, %q, %v; want %q, %q, %v", s, most, got, gotRest, gotE, want, rest, e)
	}
}

// P6.1: Num: the lowest bytes, the highest first; the chapter's example is the first.
func TestNum(t *testing.T) {
	for _, x := range []struct {
		n, bytes int
		want     string
	}{
		{258, 3, "\x00\x01\x02"},
		{258, 2, "\x01\x02"},
		{258, 1, "\x02"},
		{0, 1, "\x00"},
		{0, 7, "\x00\x00\x00\x00\x00\x00\x00"},
		{255, 1, "\xff"},
		{256, 1, "\x00"},
		{0x01020304050607, 7, "\x01\x02\x03\x04\x05\x06\x07"},
		{0x0102030405060708, 7, "\x02\x03\x04\x05\x06\x07\x08"},
		{0x01020304050607, 4, "\x04\x05\x06\x07"},
		{1 << 56, 7, "\x00\x00\x00\x00\x00\x00\x00"},
		{math.MaxInt, 7, "\xff\xff\xff\xff\xff\xff\xff"},
		{math.MinInt, 7, "\x00\x00\x00\x00\x00\x00\x00"},
		{-1, 1, "\xff"},
		{-1, 7, "\xff\xff\xff\xff\xff\xff\xff"},
		{-256, 2, "\xff\x00"},
		{-258, 3, "\xff\xfe\xfe"},
	} {
		if got := octets.Num(x.n, x.bytes); got != x.want {
			t.Errorf("Num(%d, %d): %q; want %q", x.n, x.bytes, got, x.want)
		}
	}
}

// P6.1: Num: bytes are held from 0 to 7, of every number.
func TestNumHeld(t *testing.T) {
	for _, w := range widths {
		for _, n := range odd {
			if got, want := octets.Num(n, w.bytes), number(n, w.held); got != want {
				t.Errorf("Num(%d, %d): %q; want %q", n, w.bytes, got, want)
			}
		}
	}
}

// P6.1: Take: the number of the first bytes, and what is behind.
func TestTake(t *testing.T) {
	wantTake(t, "\x00\x01\x02", 3, 258, "", api.OK)
	wantTake(t, "\x00\x01\x02", 2, 1, "\x02", api.OK)
	wantTake(t, "\x01\x00\x02", 1, 1, "\x00\x02", api.OK)
	wantTake(t, "\xff", 1, 255, "", api.OK)
	wantTake(t, "\x80\x00", 2, 1<<15, "", api.OK)
	wantTake(t, "\x80\x00\x00\x00tail", 4, 1<<31, "tail", api.OK)
	wantTake(t, "\xff\xff\xff\xff\x00", 4, 1<<32-1, "\x00", api.OK)
	wantTake(t, "\x01\x02\x03\x04\x05\x06\x07\x08", 7, 0x01020304050607, "\x08", api.OK)
	wantTake(t, "\xff\xff\xff\xff\xff\xff\xff\xff", 7, 1<<56-1, "\xff", api.OK)
	wantTake(t, "ä", 1, 0xc3, "\xa4", api.OK) // bytes, not runes
}

// P6.1: Take: bytes are held as Num's; with none the number is 0 and all is behind.
func TestTakeHeld(t *testing.T) {
	const s = "\x91\x82\x73\x64\x55\x46\x37\x28\x19"
	for _, w := range widths {
		want := 0
		for i := range w.held {
			want = want*256 + int(s[i])
		}
		wantTake(t, s, w.bytes, want, s[w.held:], api.OK)
	}
	wantTake(t, "", 0, 0, "", api.OK)
	wantTake(t, "", math.MinInt, 0, "", api.OK)
}

// P6.1: Take: ErrShort with one byte less than is asked for and with fewer, 0 and
// all that was there beside it.
func TestTakeShort(t *testing.T) {
	for _, w := range widths {
		for n := range w.held {
			s := "\xfe\x01\x02\x03\x04\x05"[:n]
			wantTake(t, s, w.bytes, 0, s, api.ErrShort)
		}
		s := strings.Repeat("\xfe", w.held)
		wantTake(t, s, w.bytes, lowest(-0x0101010101010102, w.held), "", api.OK)
	}
}

// P6.1: Text: a byte that tells how many, and these.
func TestText(t *testing.T) {
	wantText(t, "", "\x00", api.OK)
	wantText(t, "a", "\x01a", api.OK)
	wantText(t, "hello", "\x05hello", api.OK)
	wantText(t, "\x00", "\x01\x00", api.OK)
	wantText(t, "äö", "\x04\xc3\xa4\xc3\xb6", api.OK) // bytes are told, not runes
	wantText(t, "\xff\xfe", "\x02\xff\xfe", api.OK)
	for n := range 256 {
		wantText(t, text(n), string([]byte{byte(n)})+text(n), api.OK)
	}
}

// P6.1: Text: ErrLarge of more than 255 bytes, however few the runes are.
func TestTextLarge(t *testing.T) {
	for _, n := range []int{256, 257, 300, 511, 512, 513, 65535, 65536, 1 << 20} {
		wantText(t, text(n), "", api.ErrLarge)
	}
	wantText(t, strings.Repeat("ä", 127), "\xfe"+strings.Repeat("ä", 127), api.OK)
	wantText(t, strings.Repeat("ä", 128), "", api.ErrLarge)
}

// P6.1: TakeText: the text, and what is behind.
func TestTakeText(t *testing.T) {
	wantTakeText(t, "\x05hello", 255, "hello", "", api.OK)
	wantTakeText(t, "\x05hello, you", 255, "hello", ", you", api.OK)
	wantTakeText(t, "\x00", 255, "", "", api.OK)
	wantTakeText(t, "\x00\x00", 255, "", "\x00", api.OK)
	wantTakeText(t, "\x01\x01\x01a", 255, "\x01", "\x01a", api.OK)
	wantTakeText(t, "\xff"+text(300), 255, text(300)[:255], text(300)[255:], api.OK)
}

// P6.1: TakeText of no byte: ErrShort, also where no text at all would be let.
func TestTakeTextOfNothing(t *testing.T) {
	for _, most := range odd {
		wantTakeText(t, "", most, "", "", api.ErrShort)
	}
}

// P6.1: TakeText: as many bytes as most are let, one more is ErrLarge, with all that
// was there beside it.
func TestTakeTextMost(t *testing.T) {
	for n := range 256 {
		s := string([]byte{byte(n)}) + text(n) + "more"
		for _, most := range append([]int{n - 1, n, n + 1}, odd...) {
			if n > most {
				wantTakeText(t, s, most, "", s, api.ErrLarge)
			} else {
				wantTakeText(t, s, most, text(n), "more", api.OK)
			}
		}
	}
}

// P6.1: TakeText: ErrShort, if bytes lack, with all that was there beside it; but
// ErrLarge ahead of that.
func TestTakeTextShort(t *testing.T) {
	for n := 1; n < 256; n++ {
		for _, there := range []int{0, n / 2, n - 1} {
			s := string([]byte{byte(n)}) + text(there)
			wantTakeText(t, s, n-1, "", s, api.ErrLarge)
			wantTakeText(t, s, 0, "", s, api.ErrLarge)
			wantTakeText(t, s, math.MinInt, "", s, api.ErrLarge)
			wantTakeText(t, s, n, "", s, api.ErrShort)
			wantTakeText(t, s, 255, "", s, api.ErrShort)
			wantTakeText(t, s, math.MaxInt, "", s, api.ErrShort)
		}
	}
}

// P6.2: a number that is put is taken; of one that needs more bytes, or is below 0,
// the lowest bytes are.
func TestNumIsTaken(t *testing.T) {
	for _, w := range widths {
		for _, n := range odd {
			wantTake(t, octets.Num(n, w.bytes), w.bytes, lowest(n, w.held), "", api.OK)
			wantTake(t, octets.Num(n, w.bytes)+"\x01more", w.bytes, lowest(n, w.held), "\x01more", api.OK)
		}
	}
	for n := range 1 << 17 {
		wantTake(t, octets.Num(n, 3), 3, n, "", api.OK)
	}
}

// P6.2: a text that is put is taken, by who lets as many bytes.
func TestTextIsTaken(t *testing.T) {
	for n := range 256 {
		for _, behind := range []string{"", "\x00", "\xff", "\x02more"} {
			b, e := octets.Text(text(n))
			if e != api.OK {
				t.Fatalf("Text of %d bytes: %v", n, e)
			}
			wantTakeText(t, b+behind, n, text(n), behind, api.OK)
			wantTakeText(t, b+behind, 255, text(n), behind, api.OK)
		}
	}
}

// P6.2: what is put one behind the other is taken one behind the other.
func TestRowIsTaken(t *testing.T) {
	type item struct {
		n, bytes int
		text     string
		isText   bool
	}
	var items []item
	row, seed := "", uint64(6)
	for range 2000 {
		seed = step(seed)
		x := item{int(seed>>8) & math.MaxInt, int(seed >> 33 % 8), text(int(seed >> 40 % 256)), seed>>60%2 == 0}
		if x.isText {
			b, e := octets.Text(x.text)
			if e != api.OK {
				t.Fatalf("Text of %d bytes: %v", len(x.text), e)
			}
			row += b
		} else {
			row += octets.Num(x.n, x.bytes)
		}
		items = append(items, x)
	}
	for i, x := range items {
		var e api.Errno
		var s string
		var n int
		if x.isText {
			s, row, e = octets.TakeText(row, len(x.text))
			if s != x.text || e != api.OK {
				t.Fatalf("item %d: %q, %v; want %q", i, s, e, x.text)
			}
		} else {
			n, row, e = octets.Take(row, x.bytes)
			if n != lowest(x.n, x.bytes) || e != api.OK {
				t.Fatalf("item %d: %d, %v; want %d", i, n, e, lowest(x.n, x.bytes))
			}
		}
	}
	if row != "" {
		t.Fatalf("%d bytes left behind all", len(row))
	}
}

// P6.1, P6.2: whatever bytes come: what is taken is what was put there, or there is
// an error and all is left.
func TestAnyBytes(t *testing.T) {
	seed := uint64(61)
	for range 20000 {
		seed = step(seed)
		b := make([]byte, seed>>50%12)
		for i := range b {
			seed = step(seed)
			b[i] = byte(seed >> 58) // few, so that texts are whole at times
		}
		s, bytes, most := string(b), int(seed>>20%9), int(seed>>40%64)-2
		held := min(bytes, 7)
		if n, rest, e := octets.Take(s, bytes); e == api.OK && octets.Num(n, bytes)+rest != s || (e == api.ErrShort) != (len(s) < held) {
			t.Fatalf("Take(%q, %d): %d, %q, %v", s, bytes, n, rest, e)
		}
		x, rest, e := octets.TakeText(s, most)
		if e != api.OK {
			if x != "" || rest != s {
				t.Fatalf("TakeText(%q, %d): %q, %q beside %v", s, most, x, rest, e)
			}
		} else if back, e := octets.Text(x); e != api.OK || back+rest != s || len(x) > most {
			t.Fatalf("TakeText(%q, %d): %q, %q", s, most, x, rest)
		}
	}
}

// P6.2: a long row is taken to its end, and what is behind isn't gone through each
// time: that would take hours.
func TestLongRow(t *testing.T) {
	const count = 1 << 20
	row := strings.Repeat("\x01a\x00\x07", count)
	for i := range count {
		var n int
		var s string
		var e api.Errno
		s, row, e = octets.TakeText(row, 1)
		if s != "a" || e != api.OK {
			t.Fatalf("text %d: %q, %v", i, s, e)
		}
		n, row, e = octets.Take(row, 2)
		if n != 7 || e != api.OK {
			t.Fatalf("number %d: %d, %v", i, n, e)
		}
	}
	if row != "" {
		t.Fatalf("%d bytes left behind all", len(row))
	}
}
