package trie

// What a walk knows of a node.
const (
	// A # that it came to: this stands for whatever comes, so the walk stays there.
	reached = 1 + iota
	// One that leads to nothing but a # that is reached: the walk is as good without it.
	passed
)

// A walk goes along all patterns at once, as the words of a key are taken.
type walk struct {
	here  []*node // where the words taken so far lead to, each node once
	ahead []*node // where one word more leads to, as far as it was looked for
	known map[*node]int
}

// start goes to where a key leads of which no word is taken yet.
func (w *walk) start(root *node) {
	w.reach(root)
	w.step()
}

// take goes on to where a key's next word leads. As a star means nothing there, * leads
// by * alone, as a word; by # nothing new is reached, as each # from here is already.
func (w *walk) take(word string) {
	at := 0
look:
	if at == len(w.here) {
		w.step()
		return
	}
	n := w.here[at]
	at++
	if w.known[n] == reached {
		w.ahead = append(w.ahead, n)
	}
	w.reach(n.below.rows[word])
	if word != oneWord {
		w.reach(n.below.rows[oneWord])
	}
	goto look
}

// step goes to what is ahead; the room of what was here is used again.
func (w *walk) step() { w.here, w.ahead = w.ahead, w.here[:0] }

// reach lays a node ahead, if there is one, and each # that it leads to: that may stand
// for no word.
func (w *walk) reach(n *node) {
lead:
	if n == nil || w.known[n] != 0 {
		return
	}
	if n.word == anyWords {
		w.known[n] = reached
		w.pass(n.up)
	}
	w.ahead = append(w.ahead, n)
	n = n.below.rows[anyWords]
	goto lead
}

// pass marks a node that leads to a # that is reached, and those above it, as far as
// they have no id and lead nowhere else. Without this a row of many # would all be
// walked for each word.
func (w *walk) pass(n *node) {
up:
	if n == nil || n.ids.count() > 0 || n.below.count() > 1 || w.known[n] == passed {
		return
	}
	w.known[n] = passed
	n = n.up
	goto up
}

// ids are those of all nodes that the walk has come to.
func (w *walk) ids() []int {
	var all []int
	at := 0
look:
	if at == len(w.here) {
		return all
	}
	for id := range w.here[at].ids.rows {
		all = append(all, id)
	}
	at++
	goto look
}
