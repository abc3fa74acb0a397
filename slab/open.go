package slab

import (
	"iter"

	"quartermaster/bitmap"
)

// slab is one block, and the map of its places, of which the used ones are on. Its spot is where it stands among the open ones, which means nothing while it is full.
type slab struct {
	*bitmap.Map
	at, spot int
}

func newSlab(at, many int) *slab {
	return &slab{Map: bitmap.New(many), at: at}
}

func (s *slab) full() bool { return s.First(false, 0) < 0 }

// used goes through the numbers of the used places, rising.
func (s *slab) used() iter.Seq[int] {
	return func(yield func(int) bool) {
		for i := s.First(true, 0); i >= 0; i = s.First(true, i+1) {
			if !yield(i) {
				return
			}
		}
	}
}

// openSlabs are those with a free place, as a heap of package container/heap: the first one has the lowest address.
type openSlabs []*slab

// Len is how many there are.
func (l openSlabs) Len() int { return len(l) }

// Less holds addresses against each other.
func (l openSlabs) Less(i, j int) bool { return l[i].at < l[j].at }

// Swap keeps the spots right, by which a slab that isn't the first is taken out.
func (l openSlabs) Swap(i, j int) {
	l[i], l[j] = l[j], l[i]
	l[i].spot, l[j].spot = i, j
}

// Push puts a slab behind the last one.
func (l *openSlabs) Push(x any) {
	s := x.(*slab)
	s.spot = len(*l)
	*l = append(*l, s)
}

// Pop takes the last one off, and keeps nothing of it in the list's spare room.
func (l *openSlabs) Pop() any {
	last := len(*l) - 1
	s := (*l)[last]
	(*l)[last] = nil
	*l = (*l)[:last]
	return s
}
