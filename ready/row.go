package ready

import "slices"

// share is a thread's share of the time: its slice, and how many ticks are left of it.
type share struct{ slice, left int }

// renew gives the whole slice again.
func (s *share) renew() { s.left = s.slice }

// tick uses a tick up, and is whether none is left.
func (s *share) tick() bool {
	s.left--
	return s.left == 0
}

// thread is one of the queues'.
type thread struct {
	share
	id, prio int
}

// number is the thread's; -1 of none.
func (t *thread) number() int {
	if t == nil {
		return -1
	}
	return t.id
}

// row is the threads of one priority, the first one first.
type row []*thread

// join puts a thread at the row's end, with all of its slice.
func (r *row) join(t *thread) {
	t.renew()
	*r = append(*r, t)
}

// turn lets the row's first one go round. Its old place is emptied, since the row's memory may be kept for long, and with it who went from there.
func (r *row) turn() {
	t := (*r)[0]
	(*r)[0] = nil
	*r = (*r)[1:]
	r.join(t)
}

// cut takes those out that are gone.
func (r *row) cut(gone func(t *thread) bool) {
	*r = slices.DeleteFunc(*r, gone)
}

// numbers are those of the row's threads.
func (r row) numbers() []int {
	var l []int
	for _, t := range r {
		l = append(l, t.id)
	}
	return l
}
