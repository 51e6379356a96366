package trie

import (
	"runtime"
	"strconv"
	"strings"
	"testing"
)

// P12.1: of what went nothing is kept: no node that leads nowhere, whatever else is there.
func TestNothingIsKeptOfWhatWent(t *testing.T) {
	x := New()
	x.Add("a.b", 1)
	for _, p := range []string{"", "a", "a.b", "a.b.c.d", "a.*.c", "#", "a.#.#.x", "x.y", "*.*.*"} {
		x.Add(p, 2)
		x.Drop(p, 2)
		if nodes := nodesOf(&x.root); nodes != 3 {
			t.Errorf("%q went: %d nodes are left, want 3", p, nodes)
		}
		x.Drop(p, 2)
		x.Drop(p+".z", 2)
		if nodes := nodesOf(&x.root); nodes != 3 {
			t.Errorf("%q isn't there: %d nodes, want 3", p, nodes)
		}
	}
	x.Drop("a.b", 1)
	if nodes := nodesOf(&x.root); nodes != 1 || x.root.below.rows != nil {
		t.Errorf("all went: %d nodes are left, want the root alone", nodes)
	}
}

// nodesOf counts a node and all below it.
func nodesOf(n *node) int {
	all := 1
	for _, b := range n.below.rows {
		all += nodesOf(b)
	}
	return all
}

// P12.1: the room of very many pairs is given back when few are left.
func TestRoomIsGivenBack(t *testing.T) {
	const n, left = 100000, 10
	for _, where := range []func(id int) (string, int){
		func(id int) (string, int) { return "k" + strconv.Itoa(id), 0 },
		func(id int) (string, int) { return "all", id },
	} {
		x := New()
		before := heldBytes()
		for id := range n {
			x.Add(where(id))
		}
		for id := range n - left {
			x.Drop(where(id))
		}
		if grown := heldBytes() - before; grown > n {
			t.Errorf("%d bytes are held for %d pairs", grown, x.Len())
		}
		for id := range n {
			if got := x.Drop(where(id)); got != (id >= n-left) {
				t.Fatalf("%d is there: %v", id, got)
			}
		}
	}
}

// P12.1: short patterns and words that are cut from long texts don't hold these.
func TestWordsAreOfTheirOwn(t *testing.T) {
	const n, long = 40, 1 << 20
	x := New()
	before := heldBytes()
	for i := range n {
		text := strings.Repeat("e", long) + "q." + strconv.Itoa(i)
		x.Add(text[long:], i)
		x.Add(strconv.Itoa(i)+"."+text, i)
		x.Add(strconv.Itoa(i), i)
		x.Drop(strconv.Itoa(i)+"."+text, i)
	}
	if grown := heldBytes() - before; grown > n*long/4 {
		t.Errorf("%d bytes are held for %d short patterns", grown, x.Len())
	}
	if x.Len() != 2*n || x.Match("q.7")[0] != 7 {
		t.Errorf("%d pairs", x.Len())
	}
}

// heldBytes tells how many bytes can't be given back.
func heldBytes() int {
	var m runtime.MemStats
	runtime.GC()
	runtime.ReadMemStats(&m)
	return int(m.HeapAlloc)
}
