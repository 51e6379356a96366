package frame_test

import (
	"fmt"
	"math"
	"slices"
	"strings"
	"testing"

	"mailcoach/api"
	"mailcoach/frame"
)

// bounds: how many bytes frames may have together, and how many those are held to.
var bounds = []struct{ most, held int }{
	{math.MinInt, 64}, {-4096, 64}, {-1, 64}, {0, 64}, {1, 64}, {8, 64}, {63, 64}, {64, 64}, {65, 65}, {100, 100}, {255, 255},
	{256, 256}, {4095, 4095}, {4096, 4096}, {4097, 4096}, {65536, 4096}, {1 << 32, 4096}, {1<<32 + 70, 4096}, {math.MaxInt, 4096},
}

// dice is a row of numbers that look like any.
type dice uint64

// below is the next number, from 0 below n.
func (d *dice) below(n int) int {
	*d = *d*6364136223846793005 + 1442695040888963407
	return int(*d>>33) % n
}

// text is n bytes, all kinds of them.
func (d *dice) text(n int) string {
	b := make([]byte, n)
	for i := range b {
		b[i] = byte(d.below(256))
	}
	return string(b)
}

func fr(kind, channel int, data string) api.Frame {
	return api.Frame{Kind: kind, Chan: channel, Data: data}
}

// show is a frame as a failure tells it.
func show(l ...api.Frame) string {
	s := ""
	for _, f := range l {
		s += fmt.Sprintf("{%d %d %.60q}", f.Kind, f.Chan, f.Data)
	}
	return s
}

// head is the first seven bytes of a frame by the chapter's words.
func head(kind, channel, size int) string {
	return string([]byte{byte(kind), byte(channel >> 8), byte(channel), byte(size >> 24), byte(size >> 16), byte(size >> 8), byte(size)})
}

// raw is a frame's bytes by the chapter's words.
func raw(f api.Frame) string { return head(f.Kind, f.Chan, len(f.Data)) + f.Data + "\xce" }

// plain reads all bytes at once, by the chapter's words: the frames that are whole,
// how many bytes those have, whether there is no frame behind them.
func plain(s string, most int) (l []api.Frame, told int, fails bool) {
	for {
		b := s[told:]
		if b == "" {
			return l, told, false
		}
		if !strings.Contains("\x01\x02\x03\x08", b[:1]) {
			return l, told, true
		}
		if len(b) < 7 {
			return l, told, false
		}
		size := int(b[3])<<24 + int(b[4])<<16 + int(b[5])<<8 + int(b[6])
		if size+8 > most {
			return l, told, true
		}
		if len(b) < size+8 {
			return l, told, false
		}
		if b[size+7] != 0xce {
			return l, told, true
		}
		l = append(l, fr(int(b[0]), int(b[1])<<8+int(b[2]), b[7:7+size]))
		told += size + 8
	}
}

// fed is a new parser that was fed these, one behind the other.
func fed(most int, pieces ...string) *frame.Parser {
	p := frame.New(most)
	for _, b := range pieces {
		p.Feed(b)
	}
	return p
}

func wantFrame(t *testing.T, p *frame.Parser, want api.Frame) {
	t.Helper()
	if f, ok, e := p.Next(); f != want || !ok || e != api.OK {
		t.Fatalf("Next: %s, %v, %v; want %s", show(f), ok, e, show(want))
	}
}

// wantLacking: bytes lack, and so many are left; asked again the same.
func wantLacking(t *testing.T, p *frame.Parser, left int) {
	t.Helper()
	for range 3 {
		if f, ok, e := p.Next(); f != (api.Frame{}) || ok || e != api.OK {
			t.Fatalf("Next: %s, %v, %v; want none", show(f), ok, e)
		}
		wantLeft(t, p, left)
	}
}

// wantFailed: FrameError, once and for all, whatever comes.
func wantFailed(t *testing.T, p *frame.Parser) {
	t.Helper()
	for _, more := range []string{"", "", "\x01", raw(fr(1, 1, "a")), raw(fr(8, 0, "")) + raw(fr(3, 2, "bc")), "\x00", "\xce", ""} {
		if f, ok, e := p.Next(); f != (api.Frame{}) || ok || e != api.FrameError {
			t.Fatalf("Next: %s, %v, %v; want an error", show(f), ok, e)
		}
		wantLeft(t, p, 0)
		p.Feed(more)
		wantLeft(t, p, 0)
	}
}

func wantLeft(t *testing.T, p *frame.Parser, left int) {
	t.Helper()
	if got := p.Left(); got != left {
		t.Fatalf("%d left; want %d", got, left)
	}
}

// P7.1: Bytes: Kind, Chan, how many bytes, these, End.
func TestBytes(t *testing.T) {
	for _, x := range []struct {
		f    api.Frame
		want string
	}{
		{fr(1, 0, ""), "\x01\x00\x00\x00\x00\x00\x00\xce"},
		{fr(3, 258, "ab"), "\x03\x01\x02\x00\x00\x00\x02ab\xce"},
		{fr(2, 3, "\xce"), "\x02\x00\x03\x00\x00\x00\x01\xce\xce"},
		{fr(8, 256, "ä"), "\x08\x01\x00\x00\x00\x00\x02\xc3\xa4\xce"}, // bytes are told, not runes
		{fr(0, 0, ""), "\x00\x00\x00\x00\x00\x00\x00\xce"},            // Kinds that are none are put too
		{fr(4, 1, "x"), "\x04\x00\x01\x00\x00\x00\x01x\xce"},
		{fr(255, 65535, "x"), "\xff\xff\xff\x00\x00\x00\x01x\xce"},
	} {
		if got := frame.Bytes(x.f); got != x.want {
			t.Errorf("Bytes(%s): %q; want %q", show(x.f), got, x.want)
		}
	}
	d := dice(71)
	for _, n := range []int{0, 1, 55, 56, 57, 255, 256, 257, 4088, 4089, 65535, 65536, 1<<24 + 1} {
		if f := fr(3, n%65536, d.text(n)); frame.Bytes(f) != raw(f) {
			t.Errorf("Bytes of a frame of %d bytes aren't its bytes", n)
		}
	}
}

// P7.1: Bytes: "" of a Kind that isn't from 0 to 255, of a Chan that isn't from 0 to
// 65535, however its lowest bytes are.
func TestBytesOfNoFrame(t *testing.T) {
	for n := -2; n < 66000; n++ {
		kind, channel := fr(n, 3, "ab"), fr(3, n, "ab")
		want := ""
		if n >= 0 && n <= 255 {
			want = raw(kind)
		}
		if got := frame.Bytes(kind); got != want {
			t.Fatalf("Bytes(%s): %q; want %q", show(kind), got, want)
		}
		want = ""
		if n >= 0 && n <= 65535 {
			want = raw(channel)
		}
		if got := frame.Bytes(channel); got != want {
			t.Fatalf("Bytes(%s): %q; want %q", show(channel), got, want)
		}
	}
	for _, n := range []int{math.MinInt, math.MinInt + 1, -65535, -256, -255, -1, 65536, 65537, 1 << 32, 1<<32 + 1, 1<<56 + 1, math.MaxInt} {
		for _, f := range []api.Frame{fr(n, 0, "a"), fr(1, n, "a"), fr(n, n, ""), fr(n, -1, ""), fr(256, n, "")} {
			if got := frame.Bytes(f); got != "" {
				t.Errorf("Bytes(%s): %q", show(f), got)
			}
		}
	}
}

// P7.1: Next: the next frame, as long as there is one; the chapter's example is the
// first.
func TestNext(t *testing.T) {
	p := frame.New(100)
	wantLacking(t, p, 0)
	p.Feed("\x01\x00\x00\x00\x00\x00\x00")
	wantLacking(t, p, 7)
	p.Feed("\xce")
	wantFrame(t, p, fr(1, 0, ""))
	wantLacking(t, p, 0)

	l := []api.Frame{fr(1, 1, "abc"), fr(8, 0, ""), fr(2, 65535, "\xce\xce\x00"), fr(3, 258, strings.Repeat("x", 92)), fr(8, 513, "\x08")}
	left := 0
	for _, f := range l {
		p.Feed(raw(f))
		left += len(raw(f))
	}
	p.Feed("")
	wantLeft(t, p, left)
	for _, f := range l {
		wantFrame(t, p, f)
		left -= len(raw(f))
		wantLeft(t, p, left)
	}
	wantLacking(t, p, 0)
}

// P7.1: Next: false, if bytes lack, however many; with the last one the frame is
// there, and what is behind it is left.
func TestLacking(t *testing.T) {
	for _, f := range []api.Frame{fr(1, 0, ""), fr(8, 1, "a"), fr(2, 65535, "abcdefghi"), fr(3, 2, strings.Repeat("\xce", 56))} {
		b := raw(f)
		p := frame.New(64)
		for i := range len(b) {
			wantLacking(t, p, i)
			wantLacking(t, fed(64, b[:i]), i)
			p.Feed(b[i : i+1])
		}
		wantLeft(t, p, len(b))
		wantFrame(t, p, f)
		wantLacking(t, p, 0)
		p = fed(64, b+"\x03\x00")
		wantFrame(t, p, f)
		wantLacking(t, p, 2)
	}
}

// P7.1: Next: FrameError with the first byte of a Kind that is none; no other Kind.
func TestKinds(t *testing.T) {
	for kind := range 256 {
		for _, ahead := range []string{"", raw(fr(3, 1, "abc"))} {
			alone, whole := fed(100, ahead+head(kind, 0, 0)[:1]), fed(100, ahead, raw(fr(kind, 7, "ab")))
			if ahead != "" {
				wantFrame(t, alone, fr(3, 1, "abc"))
				wantFrame(t, whole, fr(3, 1, "abc"))
			}
			switch kind {
			case api.FMethod, api.FHead, api.FBody, api.FBeat:
				wantLacking(t, alone, 1)
				wantFrame(t, whole, fr(kind, 7, "ab"))
				wantLacking(t, whole, 0)
			default:
				wantFailed(t, alone)
				wantFailed(t, whole)
			}
		}
	}
}

// P7.1: Next: every Chan that two bytes can tell.
func TestChans(t *testing.T) {
	p := frame.New(64)
	for channel := range 65536 {
		p.Feed(raw(fr(8, channel, "")))
		wantFrame(t, p, fr(8, channel, ""))
	}
	wantLacking(t, p, 0)
}

// P7.1: New: frames have at most so many bytes together, held from MinFrame to
// MaxFrame; Next: FrameError of one more, with the seventh byte.
func TestMost(t *testing.T) {
	for _, x := range bounds {
		room := x.held - 8
		for _, size := range []int{0, 1, room - 1, room} {
			f := fr(3, 1, strings.Repeat("y", size))
			p := fed(x.most, raw(f)+raw(f))
			wantFrame(t, p, f)
			wantFrame(t, p, f)
			wantLacking(t, p, 0)
			wantLacking(t, fed(x.most, head(1, 0, size)), 7)
		}
		for _, size := range []int{room + 1, room + 2, room + 255, room + 256, 65536 + 1, 1 << 16, 1 << 24, 1<<31 - 1, 1 << 31, 1<<32 - 8, 1<<32 - 1} {
			wantLacking(t, fed(x.most, head(2, 0, size)[:6]), 6)
			wantFailed(t, fed(x.most, head(2, 0, size)))
			wantFailed(t, fed(x.most, head(2, 0, size)[:6], head(2, 0, size)[6:], "more"))
		}
		wantFailed(t, fed(x.most, raw(fr(3, 1, strings.Repeat("y", room+1)))))
	}
}

// P7.1: Next: FrameError with the last byte, if that isn't End; no other byte of a
// frame plays a part.
func TestEnd(t *testing.T) {
	for _, data := range []string{"", "\xce", "abc", strings.Repeat("\xce", 56)} {
		b := head(3, 5, len(data)) + data
		for end := range 256 {
			last := string([]byte{byte(end)})
			p := fed(64, b)
			wantLacking(t, p, len(b))
			p.Feed(last + "\xce")
			q := fed(64, raw(fr(1, 1, "a"))+b+last)
			wantFrame(t, q, fr(1, 1, "a"))
			if end == api.End {
				wantFrame(t, p, fr(3, 5, data))
				wantFrame(t, q, fr(3, 5, data))
				wantFailed(t, p) // the second End is a Kind that is none
				wantLacking(t, q, 0)
			} else {
				wantFailed(t, p)
				wantFailed(t, q)
			}
		}
	}
}

// P7.1: Left: what was fed and not told, also of what is no frame, until Next has
// told that; then 0.
func TestLeft(t *testing.T) {
	good := raw(fr(1, 1, "a"))
	for _, bad := range []string{"\x00", "\x04rest", "\xff\xff", head(1, 1, 93), head(1, 1, 93) + "rest", good[:8] + "x", good[:8] + "\xcd" + good} {
		p := frame.New(100)
		wantLeft(t, p, 0)
		p.Feed(good)
		p.Feed("")
		wantLeft(t, p, 9)
		p.Feed(good + bad)
		wantLeft(t, p, 18+len(bad))
		wantFrame(t, p, fr(1, 1, "a"))
		wantLeft(t, p, 9+len(bad))
		wantFrame(t, p, fr(1, 1, "a"))
		wantLeft(t, p, len(bad))
		p.Feed(bad)
		wantLeft(t, p, 2*len(bad))
		wantFailed(t, p)
	}
}

// P7.2: Split: data as frames of at most most bytes together, one behind the other;
// of the ends of most, and of one byte less and more than some frames hold.
func TestSplit(t *testing.T) {
	d := dice(72)
	for _, x := range bounds {
		each := x.held - 8
		for _, size := range []int{1, each - 1, each, each + 1, 2*each - 1, 2 * each, 2*each + 1, 5*each + each/2} {
			data := d.text(size)
			l := frame.Split(3, 5, data, x.most)
			if len(l) != (size+each-1)/each {
				t.Fatalf("Split of %d bytes, %d: %d frames", size, x.most, len(l))
			}
			for i, f := range l {
				if want := fr(3, 5, data[i*each:min(size, (i+1)*each)]); f != want {
					t.Fatalf("Split of %d bytes, %d: frame %d: %s; want %s", size, x.most, i, show(f), show(want))
				}
			}
		}
	}
}

// P7.2: Split: none of no data.
func TestSplitOfNothing(t *testing.T) {
	for _, x := range bounds {
		if l := frame.Split(3, 5, "", x.most); len(l) != 0 {
			t.Errorf("Split of nothing, %d: %s", x.most, show(l...))
		}
	}
}

// P7.2: Split: frames of that Kind and Chan, whatever these are.
func TestSplitFor(t *testing.T) {
	for _, n := range []int{math.MinInt, -1, 0, 1, 2, 3, 4, 8, 255, 256, 65535, 65536, math.MaxInt} {
		for _, want := range [][]api.Frame{
			{fr(n, 1, strings.Repeat("z", 56)), fr(n, 1, "z")},
			{fr(3, n, strings.Repeat("z", 56)), fr(3, n, "z")},
		} {
			if l := frame.Split(want[0].Kind, want[0].Chan, strings.Repeat("z", 57), 64); !slices.Equal(l, want) {
				t.Errorf("%s; want %s", show(l...), show(want...))
			}
		}
	}
}

// P7.2: what Split answers is new memory, its spare room too.
func TestSplitIsNew(t *testing.T) {
	data := strings.Repeat("0123456789", 20)
	a, b := frame.Split(3, 1, data, 64), frame.Split(3, 1, data, 64)
	want := slices.Clone(b)
	for i := range a[:cap(a)] {
		a[:cap(a)][i] = fr(9, 9, "no")
	}
	if !slices.Equal(b, want) || !slices.Equal(frame.Split(3, 1, data, 64), want) {
		t.Error("one answer is touched by what is done with another one")
	}
}

// P7.2, P7.3: what is split is read again by who lets as many bytes.
func TestSplitIsRead(t *testing.T) {
	d := dice(73)
	for _, x := range bounds {
		data := d.text(3*x.held + 1)
		p := frame.New(x.most)
		for _, f := range frame.Split(api.FBody, 3, data, x.most) {
			p.Feed(frame.Bytes(f))
		}
		got := ""
		for p.Left() > 0 {
			f, ok, e := p.Next()
			if !ok || e != api.OK || f.Kind != api.FBody || f.Chan != 3 {
				t.Fatalf("at most %d: %s, %v, %v", x.most, show(f), ok, e)
			}
			got += f.Data
		}
		if got != data {
			t.Fatalf("at most %d: other data", x.most)
		}
	}
}

// stream is bytes that are frames, most of them whole, a fault among them at times.
func stream(d *dice, most int) string {
	s := ""
	for range 1 + d.below(12) {
		size := d.below(12)
		if d.below(4) == 0 {
			size = d.below(most - 7)
		}
		b := []byte(raw(fr([]int{1, 2, 3, 8}[d.below(4)], d.below(65536), d.text(size))))
		switch d.below(24) {
		case 0: // another byte somewhere
			b[d.below(len(b))] = byte(d.below(256))
		case 1: // another Kind, size or End
			b[[]int{0, 3, 4, 5, 6, len(b) - 1}[d.below(6)]] = byte(d.below(256))
		case 2: // bytes lack
			b = b[:d.below(len(b))]
		}
		s += string(b)
	}
	return s
}

// P7.1, P7.3: however bytes come, however often Next is asked between: the same
// frames, by the chapter's words; and what is left is what was fed and not told.
func TestPieces(t *testing.T) {
	d := dice(74)
	for range 6000 {
		most := 64 + d.below(100)
		s := stream(&d, most)
		want, told, fails := plain(s, most)
		p := frame.New(most)
		var got []api.Frame
		gone, failed := 0, false
		next := func() bool {
			f, ok, e := p.Next()
			if ok {
				got = append(got, f)
				gone += len(raw(f))
			}
			failed = e != api.OK
			return ok
		}
		piece := 1 + d.below(60)
		for at := 0; at < len(s); {
			end := min(len(s), at+d.below(piece+1))
			p.Feed(s[at:end])
			at = end
			for range d.below(4) {
				next()
			}
			now, _, fails := plain(s[:at], most)
			if len(got) > len(now) || failed && !fails || !failed && p.Left() != at-gone || failed && p.Left() != 0 {
				t.Fatalf("%q, to %d: %d frames, %d left, %v", s, at, len(got), p.Left(), failed)
			}
		}
		for next() {
		}
		if !slices.Equal(got, want) || failed != fails || gone != told {
			t.Fatalf("%q: %s, %v; want %s, %v", s, show(got...), failed, show(want...), fails)
		}
	}
}

// P7.3: each of all ways to cut a row of frames once and twice tells the same; each
// frame comes as soon as its last byte does.
func TestCuts(t *testing.T) {
	l := []api.Frame{fr(1, 1, "abc"), fr(8, 0, ""), fr(3, 515, "\xce\x01\xce"), fr(2, 65535, "z")}
	s := ""
	for _, f := range l {
		s += raw(f)
	}
	for a := range len(s) + 1 {
		for b := a; b <= len(s); b++ {
			p := frame.New(64)
			var got []api.Frame
			for _, upTo := range [][2]int{{0, a}, {a, b}, {b, len(s)}} {
				p.Feed(s[upTo[0]:upTo[1]])
				f, ok, e := p.Next()
				for ; ok; f, ok, e = p.Next() {
					got = append(got, f)
				}
				want, told, _ := plain(s[:upTo[1]], 64)
				if !slices.Equal(got, want) || e != api.OK || p.Left() != upTo[1]-told {
					t.Fatalf("cut at %d, %d, up to %d: %s, %v; %d left", a, b, upTo[1], show(got...), e, p.Left())
				}
			}
		}
	}
}

// P7.3: parsers don't touch one another, nor what others have told.
func TestParsersApart(t *testing.T) {
	a, b := frame.New(64), frame.New(4096)
	one, two := raw(fr(1, 1, "from a")), raw(fr(3, 2, strings.Repeat("b", 300)))
	var told []api.Frame
	for i := range len(two) {
		if i < len(one) {
			a.Feed(one[i : i+1])
		}
		b.Feed(two[i : i+1])
		for _, p := range []*frame.Parser{a, b} {
			if f, ok, _ := p.Next(); ok {
				told = append(told, f)
				p.Feed(strings.Repeat("\x00", 400))
			}
		}
	}
	if !slices.Equal(told, []api.Frame{fr(1, 1, "from a"), fr(3, 2, strings.Repeat("b", 300))}) {
		t.Fatal(show(told...))
	}
	wantFailed(t, a)
	wantFailed(t, b)
	wantLacking(t, frame.New(64), 0)
}

// P7.3: many bytes, be it that they come one by one or all at once: what is left
// isn't gone through for each byte and each frame, that would take hours.
func TestLongRow(t *testing.T) {
	const count = 1 << 18
	f := fr(3, 258, "abcd")
	s := strings.Repeat(raw(f), count)
	one, all := frame.New(64), fed(64, s)
	for i := range len(s) {
		one.Feed(s[i : i+1])
	}
	for _, p := range []*frame.Parser{one, all} {
		for range count {
			wantFrame(t, p, f)
		}
		wantLacking(t, p, 0)
	}
	one.Feed(s)
	for i := range len(s) { // and it stays long while it goes on
		one.Feed(s[i : i+1])
		if i%len(raw(f)) == 0 {
			wantFrame(t, one, f)
		}
	}
	wantLeft(t, one, len(s))
}
