// Package slab: bodies, counted: see doc/01-slab.md.
package slab

import (
	"mailcoach/api"
)

const (
	leastClass    = 32
	greatestClass = 256
)

// A cell is one piece of room, as large as the least class. Every class is a
// whole number of cells and the cells of a body lie wherever some are free: so
// what is free can always be given out, however it is scattered.
type cell struct {
	bytes [leastClass]byte
	next  *cell
}

// A body lies in a chain of cells; an empty one has none.
type body struct {
	first *cell
	size  int
	held  int
}

// Slab: see the chapter.
type Slab struct {
	free   int
	last   int // the handle that was given last: handles rise, so none comes twice
	spare  *cell
	bodies map[int]*body
}

// New: see the chapter.
func New(room int) *Slab {
	return &Slab{free: min(max(room, 0), api.MaxRoom)}
}

// Class: see the chapter.
func Class(n int) int {
	class := leastClass
	if n <= 0 || n > greatestClass {
		return 0
	}
grow:
	if class < n {
		class *= 2
		goto grow
	}
	return class
}

// Put: see the chapter.
func (s *Slab) Put(b string) (int, api.Errno) {
	if len(b) > greatestClass {
		return 0, api.ErrLarge
	}
	class := Class(len(b))
	if class > s.free || len(s.bodies) >= api.MaxHandle {
		return 0, api.ErrFull
	}
	if s.bodies == nil { // made here, so that a Slab that New didn't make doesn't panic
		s.bodies = map[int]*body{}
	}
	s.free -= class
	s.last++
	s.bodies[s.last] = &body{first: s.write(b), size: len(b), held: 1}
	return s.last, api.OK
}

// Hold: see the chapter.
func (s *Slab) Hold(h int) api.Errno {
	b, ok := s.bodies[h]
	if !ok {
		return api.ErrStale
	}
	b.held++
	return api.OK
}

// Drop: see the chapter.
func (s *Slab) Drop(h int) (bool, api.Errno) {
	b, ok := s.bodies[h]
	if !ok {
		return false, api.ErrStale
	}
	b.held--
	if b.held > 0 {
		return false, api.OK
	}
	s.giveBack(b.first)
	s.free += Class(b.size)
	delete(s.bodies, h)
	return true, api.OK
}

// Get: see the chapter.
func (s *Slab) Get(h int) (string, api.Errno) {
	b, ok := s.bodies[h]
	if !ok {
		return "", api.ErrStale
	}
	return b.text(), api.OK
}

// Count: see the chapter.
func (s *Slab) Count(h int) int {
	b, ok := s.bodies[h]
	if !ok {
		return 0
	}
	return b.held
}

// Free: see the chapter.
func (s *Slab) Free() int { return s.free }

// Live: see the chapter.
func (s *Slab) Live() int { return len(s.bodies) }

// write lays b into as many cells as its class has, from the last piece to the
// first, so that each cell taken leads the chain.
func (s *Slab) write(b string) *cell {
	var first, taken *cell
	from := Class(len(b))
piece:
	if from == 0 {
		return first
	}
	from -= leastClass
	taken = s.take()
	if from < len(b) {
		copy(taken.bytes[:], b[from:])
	}
	taken.next = first
	first = taken
	goto piece
}

// take answers a cell out of the free list. Cells are made only when they are
// first needed: a slab of much room that is little used stays small.
func (s *Slab) take() *cell {
	if s.spare == nil {
		return &cell{}
	}
	taken := s.spare
	s.spare = taken.next
	return taken
}

// giveBack lays a whole chain ahead of the free list.
func (s *Slab) giveBack(first *cell) {
	if first == nil {
		return
	}
	last := first
walk:
	if last.next != nil {
		last = last.next
		goto walk
	}
	last.next = s.spare
	s.spare = first
}

// text puts the pieces of a body together.
func (b *body) text() string {
	var pieces []byte
	at := b.first
walk:
	if at != nil {
		pieces = append(pieces, at.bytes[:]...)
		at = at.next
		goto walk
	}
	// Cells that were used before still have what lay in them behind the size.
	return string(pieces[:b.size])
}
