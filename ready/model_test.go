package ready_test

import (
	"math"
	"slices"
	"testing"

	"quartermaster/api"
	"quartermaster/ready"
)

// turn is a thread of the model: it knows how many ticks it ran since it last came to the end of a row.
type turn struct{ id, prio, slice, ran int }

// model is queues as one line of all threads, whatever their priorities, in the order in which each came last to the end of its row: rows aren't kept, but looked for.
type model struct{ line []turn }

func (m *model) at(id int) int {
	return slices.IndexFunc(m.line, func(x turn) bool { return x.id == id })
}

func (m *model) has(id int) bool { return m.at(id) >= 0 }

func (m *model) add(id, prio, slice int) api.Errno {
	switch {
	case id < 0, prio < 0, prio > 7, slice < 1, slice > 16:
		return api.ErrArg
	case m.has(id):
		return api.ErrTwice
	}
	m.line = append(m.line, turn{id: id, prio: prio, slice: slice})
	return api.OK
}

func (m *model) drop(l []int) int {
	n := 0
	for _, id := range l {
		if m.has(id) {
			m.line = slices.Delete(m.line, m.at(id), m.at(id)+1)
			n++
		}
	}
	return n
}

// row is the numbers of a priority's threads.
func (m *model) row(prio int) []int {
	var l []int
	for _, x := range m.line {
		if x.prio == prio {
			l = append(l, x.id)
		}
	}
	return l
}

func (m *model) run() int {
	for prio := 7; prio >= 0; prio-- {
		if l := m.row(prio); len(l) > 0 {
			return l[0]
		}
	}
	return -1
}

func (m *model) tick() int {
	if id := m.run(); id >= 0 {
		x := &m.line[m.at(id)]
		x.ran++
		if x.ran == x.slice {
			return m.yield()
		}
	}
	return m.run()
}

func (m *model) yield() int {
	if id := m.run(); id >= 0 {
		x := m.line[m.at(id)]
		m.drop([]int{id})
		m.add(x.id, x.prio, x.slice)
	}
	return m.run()
}

func (m *model) left(id int) int {
	if !m.has(id) {
		return 0
	}
	x := m.line[m.at(id)]
	return x.slice - x.ran
}

func (m *model) prio(id int) int {
	if !m.has(id) {
		return -1
	}
	return m.line[m.at(id)].prio
}

// steps is a row of numbers that look like chance, and are the same at each run.
type steps uint64

func (s *steps) next(n int) int {
	*s = *s*6364136223846793005 + 1442695040888963407
	return int(*s>>33) % n
}

// below are numbers below 0, among them such as would be a good one if they were cut off.
var below = []int{-1, -2, -255, -256, -65535, -1<<31 - 1, -1 << 31, -1<<31 + 1, -1 << 32, -1<<32 + 1, -1<<32 + 2, -1<<32 + 7, -1 << 62, math.MinInt, math.MinInt + 1, math.MinInt + 2}

// far are great numbers, among them such as would be a small one, or one another, if they were cut off.
var far = []int{255, 256, 257, 65535, 65536, 65537, 1<<31 - 1, 1 << 31, 1<<31 + 1, 1<<32 - 1, 1 << 32, 1<<32 + 1, 1<<32 + 7, 1 << 62, 1<<62 + 1, math.MaxInt - 1, math.MaxInt}

// noPrios are priorities that may not be, noSlices such slices.
var (
	noPrios  = slices.Concat(below, far, []int{8, 9, 10, 15, 16})
	noSlices = slices.Concat(below, far, []int{0, 17, 18, 32})
)

// both is queues and their model, and who are asked for beside those who are there.
type both struct {
	q *ready.Queues
	*model
	ids []int
}

// made has no thread.
func made(t *testing.T, ids ...int) *both {
	t.Helper()
	b := &both{ready.New(), &model{}, slices.Concat(ids, []int{0, 1, 2})}
	b.same(t)
	return b
}

// same fails unless all that is told of the queues is what the model has, of threads that are there, that were or may be, and that never are.
func (b *both) same(t *testing.T) {
	t.Helper()
	b.sameNear(t)
	for _, id := range slices.Concat(b.ids, below, far) {
		b.sameThread(t, id)
	}
	for _, prio := range noPrios {
		if l := b.q.Row(prio); len(l) != 0 {
			t.Fatalf("Row(%d) = %v", prio, l)
		}
	}
}

// sameNear is the part of same that is of those who are there.
func (b *both) sameNear(t *testing.T) {
	t.Helper()
	if got, want := b.q.Len(), len(b.line); got != want {
		t.Fatalf("Len() = %d, not %d", got, want)
	}
	if got, want := b.q.Run(), b.run(); got != want {
		t.Fatalf("Run() = %d, not %d", got, want)
	}
	for prio := range 8 {
		if got, want := b.q.Row(prio), b.row(prio); !slices.Equal(got, want) {
			t.Fatalf("Row(%d) = %v, not %v", prio, got, want)
		}
	}
	for _, x := range b.line {
		b.sameThread(t, x.id)
	}
}

func (b *both) sameThread(t *testing.T, id int) {
	t.Helper()
	if got, want := b.q.Left(id), b.left(id); got != want {
		t.Fatalf("Left(%d) = %d, not %d", id, got, want)
	}
	if got, want := b.q.Prio(id), b.prio(id); got != want {
		t.Fatalf("Prio(%d) = %d, not %d", id, got, want)
	}
}

// What begins with do is done to both, and fails unless they answer the same.

func (b *both) doAdd(t *testing.T, id, prio, slice int) api.Errno {
	t.Helper()
	got := b.q.Add(id, prio, slice)
	if want := b.add(id, prio, slice); got != want {
		t.Fatalf("Add(%d, %d, %d) = %d, not %d", id, prio, slice, got, want)
	}
	return got
}

func (b *both) doDrop(t *testing.T, l ...int) int {
	t.Helper()
	got := b.q.Drop(l...)
	if want := b.drop(l); got != want {
		t.Fatalf("Drop(%v) = %d, not %d", l, got, want)
	}
	return got
}

func (b *both) doTick(t *testing.T) int {
	t.Helper()
	got := b.q.Tick()
	if want := b.tick(); got != want {
		t.Fatalf("Tick() = %d, not %d", got, want)
	}
	return got
}

func (b *both) doYield(t *testing.T) int {
	t.Helper()
	got := b.q.Yield()
	if want := b.yield(); got != want {
		t.Fatalf("Yield() = %d, not %d", got, want)
	}
	return got
}

// lay lays queues of the threads 1, 2, and so on, by their priorities and slices.
func lay(t *testing.T, threads ...[2]int) *both {
	t.Helper()
	b := made(t)
	for i, x := range threads {
		if e := b.doAdd(t, i+1, x[0], x[1]); e != api.OK {
			t.Fatalf("Add(%d, %d, %d) = %d", i+1, x[0], x[1], e)
		}
		b.ids = append(b.ids, i+1)
	}
	b.same(t)
	return b
}
