package grace_test

import (
	"math"
	"slices"
	"testing"

	"quartermaster/grace"
)

// coming is a thing of the model, and behind which tick it came.
type coming struct{ x, at int }

// model is a queue as all that ever came, and how many ticks there were; nothing is taken off it.
type model struct {
	period, now int
	came        []coming
}

func (m *model) left(c coming) int { return c.at + m.period - m.now }

// list are those of which so many ticks are left, from one number to another one.
func (m *model) list(least, great int) []int {
	var l []int
	for _, c := range m.came {
		if n := m.left(c); n >= least && n <= great {
			l = append(l, c.x)
		}
	}
	return l
}

// all are those that aren't due yet.
func (m *model) all() []int { return m.list(1, m.period) }

func (m *model) leftOf(x int) int {
	for _, c := range m.came {
		if c.x == x && m.left(c) > 0 {
			return m.left(c)
		}
	}
	return 0
}

func (m *model) add(l []int) int {
	for _, x := range l {
		m.came = append(m.came, coming{x, m.now})
	}
	return len(m.all())
}

func (m *model) tick() []int {
	m.now++
	return m.list(0, 0)
}

// steps is a row of numbers that look like chance, and are the same at each run.
type steps uint64

func (s *steps) next(n int) int {
	*s = *s*6364136223846793005 + 1442695040888963407
	return int(*s>>33) % n
}

// edges are numbers at the ends of whole ones and around 0, and those that would be one of these if they were cut off.
var edges = []int{math.MinInt, math.MinInt + 1, -1 << 32, -1 << 31, -256, -2, -1, 0, 1, 2, 16, 255, 256, 257, 1<<31 - 1, 1 << 31, 1 << 32, 1<<32 + 1, math.MaxInt - 1, math.MaxInt}

// both is a queue and its model.
type both struct {
	q *grace.Queue
	*model
}

func made(t *testing.T, period int) *both {
	t.Helper()
	q := grace.New(period)
	if q == nil {
		t.Fatalf("New(%d) is nil", period)
	}
	b := &both{q, &model{period: period}}
	b.same(t)
	return b
}

// same fails unless all that is told of the queue is what the model has, of all that ever came, and of the edges.
func (b *both) same(t *testing.T) {
	t.Helper()
	if got := b.q.Period(); got != b.period {
		t.Fatalf("Period() = %d, not %d", got, b.period)
	}
	if got, want := b.q.List(), b.all(); !slices.Equal(got, want) {
		t.Fatalf("List() = %v, not %v", got, want)
	}
	for _, c := range b.came {
		b.sameLeft(t, c.x)
	}
	for _, x := range edges {
		b.sameLeft(t, x)
	}
}

func (b *both) sameLeft(t *testing.T, x int) {
	t.Helper()
	if got, want := b.q.Left(x), b.leftOf(x); got != want {
		t.Fatalf("Left(%d) = %d, not %d", x, got, want)
	}
}

// What begins with do is done to both, and fails unless they answer the same.

func (b *both) doAdd(t *testing.T, l ...int) {
	t.Helper()
	got := b.q.Add(l...)
	if want := b.add(l); got != want {
		t.Fatalf("Add(%v) = %d, not %d", l, got, want)
	}
}

func (b *both) doTick(t *testing.T) []int {
	t.Helper()
	got := b.q.Tick()
	if want := b.tick(); !slices.Equal(got, want) {
		t.Fatalf("the tick %d = %v, not %v", b.now, got, want)
	}
	return got
}

// runOut ticks till all that came is due, and a round more.
func (b *both) runOut(t *testing.T) {
	t.Helper()
	for range 2 * b.period {
		b.doTick(t)
		b.same(t)
	}
	if l := b.q.List(); len(l) != 0 {
		t.Fatalf("List() = %v behind all ticks", l)
	}
}
