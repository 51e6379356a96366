package pattern_test

import (
	"slices"
	"strings"
	"testing"

	"mailcoach/api"
	"mailcoach/pattern"
)

// dice is a row of numbers that look like any.
type dice uint64

// below is the next number, from 0 below n.
func (d *dice) below(n int) int {
	*d = *d*6364136223846793005 + 1442695040888963407
	return int(*d>>33) % n
}

// row is so many words, out of those, as a key.
func (d *dice) row(words []string, n int) string {
	all := make([]string, n)
	for i := range all {
		all[i] = words[d.below(len(words))]
	}
	return strings.Join(all, ".")
}

// plain tells by the chapter's words whether a pattern matches: told[j] is whether the
// pattern's words so far match the key's first j words.
func plain(p, key string) bool {
	words := strings.Split(key, ".")
	told := make([]bool, len(words)+1)
	told[0] = true
	for _, w := range strings.Split(p, ".") {
		next := make([]bool, len(told))
		for j := range told {
			switch {
			case w == "#":
				next[j] = told[j] || j > 0 && next[j-1]
			case j > 0:
				next[j] = told[j-1] && (w == "*" || w == words[j-1])
			}
		}
		told = next
	}
	return told[len(words)]
}

// rows are all rows of 1 to most of those words, as keys.
func rows(words []string, most int) []string {
	last := words
	all := slices.Clone(words)
	for range most - 1 {
		var longer []string
		for _, r := range last {
			for _, w := range words {
				longer = append(longer, r+"."+w)
			}
		}
		all = append(all, longer...)
		last = longer
	}
	return all
}

func wantMatch(t *testing.T, p, key string, want bool) {
	t.Helper()
	if got := pattern.Match(p, key); got != want {
		t.Fatalf("Match(%.80q, %.80q): %v; want %v", p, key, got, want)
	}
}

func wantName(t *testing.T, s string, want bool) {
	t.Helper()
	if got := pattern.IsName(s); got != want {
		t.Fatalf("IsName(%.80q): %v; want %v", s, got, want)
	}
}

func wantKey(t *testing.T, s string, want bool) {
	t.Helper()
	if got := pattern.IsKey(s); got != want {
		t.Fatalf("IsKey(%.80q): %v; want %v", s, got, want)
	}
}

// P10.1: Words, written out: of "" one empty word; empty ones between, ahead, behind.
func TestWords(t *testing.T) {
	for _, x := range []struct {
		key  string
		want []string
	}{
		{"", []string{""}},
		{".", []string{"", ""}},
		{"...", []string{"", "", "", ""}},
		{"a", []string{"a"}},
		{"a.b", []string{"a", "b"}},
		{".a", []string{"", "a"}},
		{"a.", []string{"a", ""}},
		{"a..b", []string{"a", "", "b"}},
		{"*.#.##.a*", []string{"*", "#", "##", "a*"}},
		{"one two,three/four.\x00\xff\n.é", []string{"one two,three/four", "\x00\xff\n", "é"}},
	} {
		if got := pattern.Words(x.key); !slices.Equal(got, x.want) {
			t.Errorf("Words(%q): %q; want %q", x.key, got, x.want)
		}
	}
}

// P10.1: Words: one more than there are points, none of them in a word; with points
// between they are the key.
func TestWordsOfAny(t *testing.T) {
	d := dice(101)
	bytes := []byte(".ab*#\x00\xff")
	for n := range 5000 {
		b := make([]byte, d.below(1+n/100))
		for i := range b {
			b[i] = bytes[d.below(len(bytes))]
		}
		key := string(b)
		got := pattern.Words(key)
		if len(got) != 1+strings.Count(key, ".") || strings.Join(got, ".") != key {
			t.Fatalf("Words(%q): %q", key, got)
		}
	}
	for _, n := range []int{1, 255, 256, 1 << 20} {
		if got := pattern.Words(strings.Repeat(".", n)); len(got) != n+1 || slices.Max(got) != "" {
			t.Fatalf("of %d points %d words", n, len(got))
		}
		if got := pattern.Words(strings.Repeat("k", n)); len(got) != 1 || len(got[0]) != n {
			t.Fatalf("of one word of %d bytes %d", n, len(got))
		}
	}
}

// P10.1: what Words answers is new each time, its spare room too.
func TestWordsAreNew(t *testing.T) {
	for _, key := range []string{"", "a", "a.b.c", "a.b.c.d.e"} {
		want := strings.Split(key, ".")
		first, second := pattern.Words(key), pattern.Words(key)
		whole := first[:cap(first)]
		for i := range whole {
			whole[i] = "other"
		}
		if !slices.Equal(second, want) || !slices.Equal(pattern.Words(key), want) {
			t.Fatalf("Words(%q) is touched by another answer: %q", key, second)
		}
	}
}

// P10.1: a word that is no star stands for itself, for all of it, and for one word.
func TestMatchItself(t *testing.T) {
	for _, x := range []struct {
		p, key string
		want   bool
	}{
		{"", "", true}, {"a", "a", true}, {"a.b", "a.b", true}, {".", ".", true}, {"a..b", "a..b", true}, {"\xff.é", "\xff.é", true},
		{"", "a", false}, {"a", "", false}, {"", ".", false}, {".", "", false}, {"a", "b", false}, {"a", "A", false}, {"a", "aa", false}, {"aa", "a", false},
		{"a.b", "a", false}, {"a", "a.b", false}, {"a.b", "b.a", false}, {"a.", "a", false}, {"a", "a.", false}, {".a", "a", false}, {"a..b", "a.b", false}, {"a.b", "ab", false},
		// Only the whole word is a star.
		{"a*", "a*", true}, {"a*", "ab", false}, {"*a", "ba", false}, {"**", "**", true}, {"**", "a", false}, {"**", "a.b", false}, {"##", "##", true}, {"##", "a", false}, {"##", "", false}, {"a#", "a#", true}, {"a#", "a", false}, {"#a", "a", false}, {"*#", "a", false}, {"*#", "*#", true}, {" *", "a", false}, {"?", "a", false},
		// Stars of a key stand for nothing else.
		{"a", "*", false}, {"a", "#", false}, {"", "#", false}, {"a.b", "a.#", false}, {"a.b", "#", false}, {"**", "*", false},
	} {
		wantMatch(t, x.p, x.key, x.want)
	}
}

// P10.1: `*` stands for one word, whichever, an empty one or one that is a star too.
func TestMatchOneWord(t *testing.T) {
	for _, key := range []string{"", "a", "*", "#", "long-word", "\x00", strings.Repeat("k", 1<<20)} {
		wantMatch(t, "*", key, true)
		wantMatch(t, "*.*", key, false)
		wantMatch(t, "*", key+".b", false)
		wantMatch(t, "*.b", key+".b", true)
		wantMatch(t, "b.*", "b."+key, true)
		wantMatch(t, "a.*.b", "a."+key+".b", true)
		wantMatch(t, "a.*.b", "a."+key+".c", false)
		wantMatch(t, "a.*.b", "a."+key+"."+key+".b", false)
	}
	wantMatch(t, "a.*", "a", false)
	wantMatch(t, "*.a", "a", false)
	wantMatch(t, "a.*.b", "a.b", false)
}

// P10.1: `#` stands for any number of words, 0 too; the chapter's examples are the first.
func TestMatchAnyWords(t *testing.T) {
	wantMatch(t, "a.#", "a", true)
	wantMatch(t, "a.#", "a.b", true)
	for n := range 300 {
		words := strings.Repeat("x.", n)
		wantMatch(t, "#", words+"x", true)
		wantMatch(t, "#", words, true)
		wantMatch(t, "a.#", "a."+words+"x", true)
		wantMatch(t, "a.#", "b."+words+"x", false)
		wantMatch(t, "#.b", words+"b", true)
		wantMatch(t, "#.b", words+"c", false)
		wantMatch(t, "a.#.b", "a."+words+"b", true)
		wantMatch(t, "a.#.b", "a."+words+"b.c", false)
		wantMatch(t, "#.b.#", words+"b."+words+"c", true)
		wantMatch(t, "#.b.#", words+"c."+words+"c", false)
	}
	for _, p := range []string{"#", "#.#", "#.#.#"} {
		wantMatch(t, p, "", true)
		wantMatch(t, p, "a", true)
	}
	wantMatch(t, "#.a", "", false)
	wantMatch(t, "a.#", "", false)
	wantMatch(t, ".#", "", true)
	wantMatch(t, "a.#.b", "a", false)
	wantMatch(t, "a.#.b", "b", false)
	wantMatch(t, "a.#.a", "a", false)
}

// P10.1, P10.2: both stars: `#` may stand for more, so that what is behind it finds its place.
func TestMatchBothStars(t *testing.T) {
	for n := range 8 {
		key := strings.TrimSuffix(strings.Repeat("a.", n), ".")
		// Of "" there is one word.
		words := max(n, 1)
		for stars := 1; stars < 9; stars++ {
			p := strings.Repeat("*.", stars)
			wantMatch(t, p+"#", key, stars <= words)
			wantMatch(t, "#."+strings.TrimSuffix(p, "."), key, stars <= words)
			wantMatch(t, p+"#.*", key, stars+1 <= words)
			wantMatch(t, strings.TrimSuffix(p, "."), key, stars == words)
		}
	}
	wantMatch(t, "#.a.b", "a.a.b", true)
	wantMatch(t, "#.a.b", "a.b.a.b", true)
	wantMatch(t, "#.a.b", "a.b.a", false)
	wantMatch(t, "#.a.*.c.#.d", "a.a.b.c.d.c.d", true)
	wantMatch(t, "#.a.*.c.#.d", "a.b.b.c.d", false)
	wantMatch(t, "a.#.b.#.c", "a.c.b.c", true)
	wantMatch(t, "a.#.b.#.c", "a.c.c", false)
	wantMatch(t, "a.#.b.#.c", "a.b", false)
}

// P10.1, P10.2: all patterns of up to four words out of a few, on all keys of up to four.
func TestMatchOfAll(t *testing.T) {
	keys := rows([]string{"a", "b", "", "*", "#"}, 4)
	matched := 0
	for _, p := range rows([]string{"a", "b", "", "*", "#", "a*"}, 4) {
		for _, key := range keys {
			want := plain(p, key)
			wantMatch(t, p, key, want)
			if want {
				matched++
			}
		}
	}
	if matched < 1000 {
		t.Fatalf("only %d match", matched)
	}
}

// P10.1, P10.2: longer ones, at random.
func TestMatchOfAny(t *testing.T) {
	d := dice(102)
	matched := 0
	for range 200000 {
		p := d.row([]string{"a", "b", "*", "#", "#"}, 1+d.below(12))
		key := d.row([]string{"a", "b"}, 1+d.below(16))
		want := plain(p, key)
		wantMatch(t, p, key, want)
		if want {
			matched++
		}
	}
	if matched < 10000 {
		t.Fatalf("only %d match", matched)
	}
}

// P10.1: many stars: it ends.
func TestMatchEnds(t *testing.T) {
	stars, words := strings.Repeat("#.a.", 1000), strings.Repeat("a.", 4000)
	wantMatch(t, stars+"b", words+"b", true)
	wantMatch(t, stars+"b", words+"c", false)
	wantMatch(t, stars+"#", words, true)
	wantMatch(t, stars, words, true)
	wantMatch(t, stars, words+"a", false)
	wantMatch(t, strings.Repeat("*.", 1<<18)+"#", strings.Repeat(".", 1<<18), true)
	wantMatch(t, strings.Repeat("#.", 1<<18)+"*", strings.Repeat(".", 1<<18), true)
	wantMatch(t, strings.Repeat("#.", 1<<18)+"b", strings.Repeat(".", 1<<18), false)
}

// P10.1: IsName: 1 to 12 bytes; each byte but letters, digits, `-` is none of a name's,
// wherever it stands.
func TestIsName(t *testing.T) {
	const may = "abcdefghijklmnopqrstuvwxyzABCDEFGHIJKLMNOPQRSTUVWXYZ0123456789-"
	for n := range 256 {
		b := string([]byte{byte(n)})
		want := strings.Contains(may, b)
		for _, s := range []string{b, b + "a", "a" + b, "Q-1" + b + "z", "eleven-byte" + b, b + "eleven-byte"} {
			wantName(t, s, want)
		}
	}
	for n := range 300 {
		want := n >= 1 && n <= 12
		wantName(t, strings.Repeat("a", n), want)
		wantName(t, strings.Repeat("-", n), want)
		wantName(t, strings.Repeat("*", n), false)
	}
	wantName(t, strings.Repeat("a", api.MaxName), true)
	wantName(t, strings.Repeat("a", api.MaxName+1), false)
	// Letters, digits, a line, elsewhere in the world.
	for _, s := range []string{"é", "aé", "ß", "ж", "٣", "–", "a\u2010b", "a b", "a.b", "a_b", "a\n", "\x00", "#", "*"} {
		wantName(t, s, false)
	}
	wantName(t, strings.Repeat("a", 1<<24), false)
}

// P10.1: IsKey: at most 40 bytes, whichever.
func TestIsKey(t *testing.T) {
	for n := range 300 {
		for _, word := range []string{"k", ".", "*", "#", "\x00", "\xff"} {
			wantKey(t, strings.Repeat(word, n), n <= 40)
		}
	}
	wantKey(t, strings.Repeat("k", api.MaxKey), true)
	wantKey(t, strings.Repeat("k", api.MaxKey+1), false)
	// Bytes, not letters: 40 and 42 of them.
	wantKey(t, strings.Repeat("é", 20), true)
	wantKey(t, strings.Repeat("é", 21), false)
	wantKey(t, strings.Repeat("k", 1<<24), false)
}
