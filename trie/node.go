package trie

import (
	"strings"

	"mailcoach/pattern"
)

// A node is where the words of some patterns lead to. But for a root each one has an
// id or leads to a node that has one.
type node struct {
	up    *node
	word  string // the one that leads here from up
	below table[string, *node]
	ids   table[int, struct{}]
}

// lay answers the node that a pattern's words lead to; the nodes that lack are made.
func (n *node) lay(text string) *node {
	words := pattern.Words(text)
	at := 0
lead:
	if at == len(words) {
		return n
	}
	n = n.to(words[at])
	at++
	goto lead
}

// to answers the node that a word leads to; if it lacks, it is made.
func (n *node) to(word string) *node {
	if next := n.below.rows[word]; next != nil {
		return next
	}
	// A copy, or a short word would keep the whole pattern that it was cut from.
	next := &node{up: n, word: strings.Clone(word)}
	n.below.put(next.word, next)
	return next
}

// find answers the node that a pattern's words lead to, nil if there is none.
func (n *node) find(text string) *node {
	words := pattern.Words(text)
	at := 0
lead:
	if n == nil || at == len(words) {
		return n
	}
	n = n.below.rows[words[at]]
	at++
	goto lead
}

// prune takes out the node, and those above it, as far as they have no id any more and
// lead nowhere.
func (n *node) prune() {
up:
	if n.up == nil || n.ids.count() > 0 || n.below.count() > 0 {
		return
	}
	n.up.below.drop(n.word)
	n = n.up
	goto up
}
