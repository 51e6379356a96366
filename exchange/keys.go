package exchange

import (
	"mailcoach/api"
	"mailcoach/trie"
)

// keys tell which of a topic's bindings match. The bindings themselves lie in the
// table: at the same place in their order as their ids here, which rise.
type keys struct {
	tree *trie.Trie
	ids  []int
}

func newKeys() *keys { return &keys{tree: trie.New()} }

// add takes in the key of a binding that came behind all.
func (k *keys) add(key string) {
	id := 0
	if n := len(k.ids); n > 0 {
		id = k.ids[n-1] + 1
	}
	k.tree.Add(key, id)
	k.ids = append(k.ids, id)
}

// cut takes the keys of those bindings out that are so; rows are all there still are.
func (k *keys) cut(rows []api.Binding, are func(api.Binding) bool) {
	var left []int
	at := 0
walk:
	switch {
	case at == len(rows):
		k.ids = left
		return
	case are(rows[at]):
		k.tree.Drop(rows[at].Key, k.ids[at])
	default:
		left = append(left, k.ids[at])
	}
	at++
	goto walk
}

// matching answers those of all the bindings that match, in order.
func (k *keys) matching(rows []api.Binding, key string) []api.Binding {
	ids := k.tree.Match(key)
	var found []api.Binding
	at, hit := 0, 0
walk:
	if at == len(rows) || hit == len(ids) {
		return found
	}
	if k.ids[at] == ids[hit] {
		found = append(found, rows[at])
		hit++
	}
	at++
	goto walk
}
