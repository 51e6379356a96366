package trie

// A table is a map that gives back the room of what went.
type table[K comparable, V any] struct {
	rows map[K]V
	most int // so many rows there were at once since the map was made
}

func (t *table[K, V]) count() int { return len(t.rows) }

func (t *table[K, V]) has(key K) bool {
	_, ok := t.rows[key]
	return ok
}

func (t *table[K, V]) put(key K, row V) {
	if t.rows == nil {
		t.rows = map[K]V{}
	}
	t.rows[key] = row
	t.most = max(t.most, len(t.rows))
}

// drop takes a row out. Where three of four rows went, those left are laid into a new
// map: no map's room gets less.
func (t *table[K, V]) drop(key K) {
	delete(t.rows, key)
	if len(t.rows) > t.most/4 {
		return
	}
	left := t.rows
	*t = table[K, V]{}
	for k, row := range left {
		t.put(k, row)
	}
}
