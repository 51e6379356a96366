package trie_test

import (
	"math"
	"slices"
	"strconv"
	"strings"
	"testing"

	"mailcoach/pattern"
	"mailcoach/trie"
)

// dice is a row of numbers that look like any.
type dice uint64

// below is the next number, from 0 below n.
func (d *dice) below(n int) int {
	*d = *d*6364136223846793005 + 1442695040888963407
	return int(*d>>33) % n
}

// row is so many words, out of those, as a key.
func (d *dice) row(words []string, n int) string {
	all := make([]string, n)
	for i := range all {
		all[i] = words[d.below(len(words))]
	}
	return strings.Join(all, ".")
}

// rows are all rows of 1 to most of those words, as keys.
func rows(words []string, most int) []string {
	last := words
	all := slices.Clone(words)
	for range most - 1 {
		var longer []string
		for _, r := range last {
			for _, w := range words {
				longer = append(longer, r+"."+w)
			}
		}
		all = append(all, longer...)
		last = longer
	}
	return all
}

// pair is what is added to a trie.
type pair struct {
	pattern string
	id      int
}

// model is a trie that asks of each of its pairs, one by one.
type model map[pair]int

func (m model) match(key string) []int {
	var ids []int
	for p := range m {
		if pattern.Match(p.pattern, key) {
			ids = append(ids, p.id)
		}
	}
	slices.Sort(ids)
	return slices.Compact(ids)
}

// trieOf is a trie with those pairs, each of them a new one.
func trieOf(t *testing.T, all ...pair) *trie.Trie {
	t.Helper()
	x := trie.New()
	for i, p := range all {
		x.Add(p.pattern, p.id)
		wantLen(t, x, i+1)
	}
	return x
}

func wantMatch(t *testing.T, x *trie.Trie, key string, want ...int) {
	t.Helper()
	if got := x.Match(key); !slices.Equal(got, want) {
		t.Fatalf("Match(%.80q): %.200v; want %.200v", key, got, want)
	}
}

func wantDrop(t *testing.T, x *trie.Trie, pattern string, id int, want bool) {
	t.Helper()
	if got := x.Drop(pattern, id); got != want {
		t.Fatalf("Drop(%.80q, %d): %v; want %v", pattern, id, got, want)
	}
}

func wantLen(t *testing.T, x *trie.Trie, want int) {
	t.Helper()
	if got := x.Len(); got != want {
		t.Fatalf("Len: %d; want %d", got, want)
	}
}

// P12.1: in a new trie, and in one that nobody made, nothing is there.
func TestNew(t *testing.T) {
	var zero trie.Trie
	for _, x := range []*trie.Trie{trie.New(), &zero} {
		for _, s := range []string{"", "a", "a.b", "*", "#", "."} {
			wantMatch(t, x, s)
			wantDrop(t, x, s, 0, false)
			wantDrop(t, x, s, 1, false)
			wantLen(t, x, 0)
		}
		x.Add("a.*", 1)
		wantLen(t, x, 1)
		wantMatch(t, x, "a.b", 1)
		wantMatch(t, x, "a")
	}
}

// P12.1, P12.2: the chapter's example.
func TestExample(t *testing.T) {
	x := trieOf(t, pair{"*.b", 1}, pair{"a.#", 2})
	wantMatch(t, x, "a.b", 1, 2)
	wantMatch(t, x, "c.b", 1)
	wantMatch(t, x, "a.c", 2)
	wantMatch(t, x, "a", 2)
	wantMatch(t, x, "b")
}

// P12.1: a pair is there once, however often it is added; one Drop, and it isn't there.
func TestAPairIsThereOnce(t *testing.T) {
	for _, p := range []string{"", "a", "a.b", "*", "#", "a.*.#", ".", "#.#"} {
		x := trie.New()
		for range 3 {
			x.Add(p, 7)
			wantLen(t, x, 1)
		}
		wantDrop(t, x, p, 7, true)
		wantLen(t, x, 0)
		for range 3 {
			wantDrop(t, x, p, 7, false)
			wantLen(t, x, 0)
		}
		for _, key := range []string{"", "a", "a.b", ".", "a.b.c"} {
			wantMatch(t, x, key)
		}
		x.Add(p, 7)
		wantLen(t, x, 1)
		wantDrop(t, x, p, 7, true)
	}
}

// P12.1: Drop takes just that pair: no other id, and no pattern that is met by the same
// keys, that is a part of it or that it is a part of.
func TestDropOfWhatIsNotThere(t *testing.T) {
	all := []pair{{"a.b", 1}, {"a.b", 2}, {"a.#", 1}, {"#", 3}, {"*.b.c", 4}}
	x := trieOf(t, all...)
	for _, p := range []pair{
		{"a.b", 3}, {"a.b", 0}, {"a.b", -1}, {"a.#", 2}, {"#", 1}, {"*.b.c", 1},
		{"a", 1}, {"a.b.c", 1}, {"*", 1}, {"*.b", 1}, {"*.b", 4}, {"*.*", 1}, {"#.#", 3}, {"#.b", 1},
		{"a.b.#", 1}, {"a.#.#", 1}, {"a.*", 1}, {"", 1}, {".", 1}, {"a.", 1}, {".b", 1}, {"a.b.", 1},
		{"A.b", 1}, {"ab", 1}, {"a.bb", 1}, {"x.b.c", 4}, {"a.b.c", 4}, {"*.b.c.d", 4},
	} {
		wantDrop(t, x, p.pattern, p.id, false)
		wantLen(t, x, len(all))
	}
	wantMatch(t, x, "a.b", 1, 2, 3)
	wantMatch(t, x, "x.b.c", 3, 4)
	for i, p := range all {
		wantDrop(t, x, p.pattern, p.id, true)
		wantDrop(t, x, p.pattern, p.id, false)
		wantLen(t, x, len(all)-i-1)
	}
	wantMatch(t, x, "a.b")
}

// P12.1: what went doesn't take along what lies ahead of it, behind it or beside it.
func TestDropLeavesTheOthers(t *testing.T) {
	all := []pair{{"a", 1}, {"a.b", 2}, {"a.b.c", 3}, {"a.*.c", 4}, {"a.#", 5}, {"a.#.c", 6}, {"a.b", 7}}
	match := map[int]string{1: "a", 2: "a.b", 3: "a.b.c", 4: "a.x.c", 5: "a.x.y", 6: "a.x.y.c", 7: "a.b"}
	for _, gone := range all {
		x := trieOf(t, all...)
		wantDrop(t, x, gone.pattern, gone.id, true)
		for _, p := range all {
			if got := slices.Contains(x.Match(match[p.id]), p.id); got != (p != gone) {
				t.Errorf("without %v: %v is met: %v", gone, p, got)
			}
		}
	}
}

// P12.1: the ids rise, each of them comes once, by however many patterns it is met.
func TestIdsRise(t *testing.T) {
	x := trie.New()
	for _, id := range []int{5, math.MaxInt, -3, 0, math.MinInt, 5, 12, -40} {
		for _, p := range []string{"a.b", "*.b", "#", "a.#.b", "#.#.b"} {
			x.Add(p, id)
		}
	}
	x.Add("a.*", 1)
	x.Add("c", 2)
	wantLen(t, x, 7*5+2)
	wantMatch(t, x, "a.b", math.MinInt, -40, -3, 0, 1, 5, 12, math.MaxInt)
	wantMatch(t, x, "c", math.MinInt, -40, -3, 0, 2, 5, 12, math.MaxInt)
	for _, p := range []string{"a.b", "*.b", "#", "a.#.b"} {
		wantDrop(t, x, p, 5, true)
		wantMatch(t, x, "a.b", math.MinInt, -40, -3, 0, 1, 5, 12, math.MaxInt)
	}
	wantDrop(t, x, "#.#.b", 5, true)
	wantMatch(t, x, "a.b", math.MinInt, -40, -3, 0, 1, 12, math.MaxInt)
}

// P12.1: in a key a star is a word like others.
func TestStarsInKeys(t *testing.T) {
	x := trieOf(t, pair{"a", 1}, pair{"*", 2}, pair{"#", 3}, pair{"a.b", 4}, pair{"a.*", 5}, pair{"a.#", 6}, pair{"a.#.b", 7})
	wantMatch(t, x, "*", 2, 3)
	wantMatch(t, x, "#", 2, 3)
	wantMatch(t, x, "a.*", 3, 5, 6)
	wantMatch(t, x, "a.#", 3, 5, 6)
	wantMatch(t, x, "a.#.b", 3, 6, 7)
	wantMatch(t, x, "*.b", 3)
	wantMatch(t, x, "#.b", 3)
	wantMatch(t, x, "*.#", 3)
}

// P12.1: words that only begin or end like a star stand for themselves, the empty word too.
func TestWordsThatStandForThemselves(t *testing.T) {
	words := []string{"", "a", "A", "**", "##", "*a", "a*", "#a", "a#", "*#", " ", "\x00", "\xff", "ä"}
	x := trie.New()
	for i, w := range words {
		x.Add(w, i)
		x.Add("x."+w, 100+i)
	}
	x.Add("x.*", 200)
	for i, w := range words {
		wantMatch(t, x, w, i)
		wantMatch(t, x, "x."+w, 100+i, 200)
		wantMatch(t, x, w+".x")
	}
}

// P12.1, P12.2: with all patterns of up to three words there, each key's ids are those
// that the patterns give one by one; so they are with every third one, and with none.
func TestAllPatterns(t *testing.T) {
	all := rows([]string{"a", "b", "*", "#", ""}, 3)
	keys := rows([]string{"a", "b", "c", "", "*", "#"}, 4)
	x, m := trie.New(), model{}
	for i, p := range all {
		x.Add(p, i)
		m[pair{p, i}] = 1
	}
	want := func() {
		t.Helper()
		wantLen(t, x, len(m))
		for _, key := range keys {
			wantMatch(t, x, key, m.match(key)...)
		}
	}
	want()
	for _, left := range []int{0, 3} {
		for i, p := range all {
			if left == 0 || i%left != 0 {
				continue
			}
			wantDrop(t, x, p, i, true)
			delete(m, pair{p, i})
		}
	}
	want()
	for p := range m {
		wantDrop(t, x, p.pattern, p.id, true)
	}
	clear(m)
	want()
}

// P12.2: few patterns, with many a #: what one of them makes needless for itself isn't so
// for the others.
func TestFewPatterns(t *testing.T) {
	d := dice(12)
	keys := rows([]string{"a", "b"}, 5)
	words := []string{"a", "b", "*", "#", "#", "#"}
	for range 3000 {
		x, m := trie.New(), model{}
		for id := range 1 + d.below(5) {
			p := d.row(words, 1+d.below(6))
			x.Add(p, id)
			m[pair{p, id}] = 1
		}
		for _, key := range keys {
			if got, want := x.Match(key), m.match(key); !slices.Equal(got, want) {
				t.Fatalf("%q of %v: %v; want %v", key, m, got, want)
			}
		}
	}
}

// P12.1, P12.2: whatever is added and dropped, all is as the pairs are one by one.
func TestAgainstOneByOne(t *testing.T) {
	d := dice(1)
	words := []string{"a", "b", "c", "*", "#", ""}
	x, m := trie.New(), model{}
	for i := range 10000 {
		p := pair{d.row(words, 1+d.below(5)), d.below(9) - 4}
		_, there := m[p]
		// Now more come, now more go.
		if d.below(10) < 3+i/2500%2*5 {
			wantDrop(t, x, p.pattern, p.id, there)
			delete(m, p)
		} else {
			x.Add(p.pattern, p.id)
			m[p] = 1
		}
		wantLen(t, x, len(m))
		if i%10 == 0 {
			key := d.row(words, 1+d.below(6))
			wantMatch(t, x, key, m.match(key)...)
		}
	}
	for p := range m {
		wantDrop(t, x, p.pattern, p.id, true)
		wantDrop(t, x, p.pattern, p.id, false)
	}
	wantLen(t, x, 0)
	for _, key := range rows([]string{"a", "b", ""}, 3) {
		wantMatch(t, x, key)
	}
}

// P12.2: it isn't told in which order the pairs came, nor what came and went.
func TestOrderIsNotTold(t *testing.T) {
	d := dice(3)
	words := []string{"a", "b", "*", "#"}
	var all []pair
	for id := range 60 {
		all = append(all, pair{d.row(words, 1+d.below(4)), id})
	}
	x, y := trieOf(t, all...), trie.New()
	for i := range all {
		y.Add(all[i].pattern, all[i].id+1000)
	}
	slices.Reverse(all)
	for _, p := range all {
		y.Add(p.pattern, p.id)
		wantDrop(t, y, p.pattern, p.id+1000, true)
	}
	for _, key := range rows([]string{"a", "b", "c"}, 4) {
		wantMatch(t, y, key, x.Match(key)...)
	}
}

// P12.1: Match changes nothing; what it answered is the caller's own, its spare room too.
func TestAnswersAreNew(t *testing.T) {
	x := trie.New()
	for id := range 20 {
		x.Add("a.#", id)
		x.Add("#", id*2)
	}
	want := x.Match("a.b")
	kept := slices.Clone(want)
	for range 3 {
		got := x.Match("a.b")
		if !slices.Equal(got, kept) || !slices.Equal(want, kept) {
			t.Fatalf("%v, ahead of it %v; want %v", got, want, kept)
		}
		for i := range got[:cap(got)] {
			got[:cap(got)][i] = -9
		}
		x.Add("a.b", 99)
		wantDrop(t, x, "a.b", 99, true)
	}
	if !slices.Equal(want, kept) {
		t.Errorf("the first answer became %v", want)
	}
	wantLen(t, x, 40)
}

// P12.2: tries don't hang on one another.
func TestTriesAreApart(t *testing.T) {
	x, y := trie.New(), trie.New()
	x.Add("a.#", 1)
	y.Add("a.#", 2)
	wantMatch(t, x, "a", 1)
	wantMatch(t, y, "a", 2)
	wantDrop(t, x, "a.#", 2, false)
	wantDrop(t, y, "a.#", 2, true)
	wantMatch(t, x, "a", 1)
	wantMatch(t, y, "a")
	wantLen(t, x, 1)
	wantLen(t, y, 0)
}

// P12.1, P12.2: of patterns and keys of very many words no call takes too long.
func TestManyWords(t *testing.T) {
	const n = 1 << 16
	some := strings.Repeat("a.", n)
	all := []pair{{some + "a", 1}, {some + "*", 2}, {some + "b", 3}, {some + "#", 4}, {"#.b." + some + "a", 5},
		{strings.Repeat("#.", n) + "a", 6}, {strings.Repeat("#.", n) + "b", 7}, {strings.Repeat("#.a.", n/2) + "a", 8},
		{strings.Repeat("*.", n) + "*", 9}, {strings.Repeat("*.", n) + "*.*", 10}, {strings.Repeat("#.*.", n/2) + "#", 11}}
	for _, p := range all {
		x := trieOf(t, p)
		for _, key := range []string{some, some + "a", some + "b"} {
			wantMatch(t, x, key, model{p: 1}.match(key)...)
		}
		wantMatch(t, x, "a", model{p: 1}.match("a")...)
		wantDrop(t, x, p.pattern+".a", p.id, false)
		wantDrop(t, x, p.pattern[2:], p.id, false)
		wantDrop(t, x, p.pattern, p.id, true)
		wantLen(t, x, 0)
	}
}

// P12.1, P12.2: nodes that very many ways lead to are each come by once.
func TestManyWays(t *testing.T) {
	const n = 50
	for _, words := range [][2]string{{"#.a", "a"}, {"#.*", "a"}, {"*.#", "*"}, {"#.#.a", "a"}, {"*", "*"}, {"#", "#"}, {"*.#", "#"}} {
		x, m := trie.New(), model{}
		for id := range n {
			p := words[0] + strings.Repeat("."+words[0], id)
			x.Add(p, id)
			m[pair{p, id}] = 1
		}
		for _, some := range []int{0, 1, n/2 - 1, n, 2 * n} {
			key := words[1] + strings.Repeat("."+words[1], some)
			wantMatch(t, x, key, m.match(key)...)
		}
	}
}

// P12.1, P12.2: of very many pairs, at patterns of their own and all at one, each is met.
func TestManyPairs(t *testing.T) {
	const n = 50000
	x := trie.New()
	var want []int
	for id := range n {
		x.Add("k"+strconv.Itoa(id)+".#", id)
		x.Add("all.*", n-id)
		want = append(want, id+1)
	}
	wantLen(t, x, 2*n)
	wantMatch(t, x, "all.a", want...)
	for id := range n {
		wantMatch(t, x, "k"+strconv.Itoa(id)+".a", id)
		wantDrop(t, x, "k"+strconv.Itoa(id)+".#", id, true)
		wantDrop(t, x, "all.*", id+1, true)
	}
	wantLen(t, x, 0)
	wantMatch(t, x, "all.a")
	wantMatch(t, x, "k7")
}
