package ready_test

import (
	"slices"
	"testing"

	"quartermaster/api"
	"quartermaster/ready"
)

// anything does one thing to both, with threads below many, of the lowest priorities.
func (b *both) anything(t *testing.T, s *steps, many, prios int) {
	t.Helper()
	switch k := s.next(100); {
	case k < 30:
		b.doAdd(t, s.next(many), s.next(prios), s.next(16)+1)
	case k < 32:
		b.doAdd(t, s.next(many)-1, s.next(prios+8)-4, s.next(20)-1)
	case k < 42:
		b.doDrop(t, s.next(many))
	case k < 46:
		var l []int
		for range s.next(6) {
			l = append(l, s.next(many+4)-2)
		}
		b.doDrop(t, l...)
	case k < 60:
		b.doYield(t)
	default:
		b.doTick(t)
	}
}

// P11.1 to P11.4: like the model, in mixed order, with few threads and many, in one row and in all; all that is told is looked at behind each step.
func TestLikeTheModel(t *testing.T) {
	for seed := range 24 {
		s := steps(seed)
		many, prios := []int{2, 5, 12, 40}[seed%4], []int{1, 2, 8}[seed%3]
		b := made(t)
		for id := range many {
			b.ids = append(b.ids, id)
		}
		for range 500 {
			b.anything(t, &s, many, prios)
			b.same(t)
		}
	}
}

// P11.1 to P11.4: like the model, by all rows of six steps: adding of three threads at two priorities, ticks, yields, and drops of each and of two.
func TestAllShortRows(t *testing.T) {
	const kinds = 9
	for row := range kinds * kinds * kinds * kinds * kinds * kinds {
		b := &both{q: ready.New(), model: &model{}}
		for left, n := row, 0; n < 6; n++ {
			switch left % kinds {
			case 0:
				b.doAdd(t, 0, 0, 1)
			case 1:
				b.doAdd(t, 1, 0, 2)
			case 2:
				b.doAdd(t, 0, 1, 2)
			case 3:
				b.doAdd(t, 2, 1, 1)
			case 4:
				b.doTick(t)
			case 5:
				b.doYield(t)
			case 6:
				b.doDrop(t, 0)
			case 7:
				b.doDrop(t, 1)
			default:
				b.doDrop(t, 2, 0)
			}
			left /= kinds
		}
		b.sameNear(t)
	}
}

// P11.4: nobody runs while one of a higher priority is there, and who runs is there.
func TestNobodyRunsBelowAHigherOne(t *testing.T) {
	for seed := range 10 {
		s := steps(300 + seed)
		b := made(t)
		for range 1000 {
			b.anything(t, &s, 20, 8)
			id := b.q.Run()
			if (id < 0) != (b.q.Len() == 0) {
				t.Fatalf("%d runs, of %d", id, b.q.Len())
			}
			for other := range 20 {
				if b.q.Prio(other) > b.q.Prio(id) {
					t.Fatalf("%d runs, of the priority %d, and %d of %d is there", id, b.q.Prio(id), other, b.q.Prio(other))
				}
			}
		}
	}
}

// P11.4: those of one priority run one behind the other, each its slice, as often as one likes; those below them don't run, and keep what they have left.
func TestEachRunsItsSlice(t *testing.T) {
	for many := 1; many <= 20; many++ {
		b := made(t)
		b.doAdd(t, 500, 2, 7)
		b.doTick(t)
		var order []int
		for i := range many {
			slice := (i*7+many)%16 + 1
			b.doAdd(t, i, 3, slice)
			order = append(order, slices.Repeat([]int{i}, slice)...)
		}
		for n := range 3 * len(order) {
			if got, want := b.q.Run(), order[n%len(order)]; got != want {
				t.Fatalf("of %d, tick %d: %d runs, not %d", many, n, got, want)
			}
			b.doTick(t)
		}
		left(t, b.q, 500, 6)
		b.same(t)
	}
}

// P11.2, P11.4: each tick is used by who runs, and by nobody else.
func TestATickIsOfWhoRunsAlone(t *testing.T) {
	var s steps = 9
	b := made(t)
	for range 2000 {
		b.anything(t, &s, 16, 4)
		id := b.q.Run()
		var before [16]int
		for x := range before {
			before[x] = b.q.Left(x)
		}
		b.doTick(t)
		for x, n := range before {
			got := b.q.Left(x)
			if x == id && n > 1 {
				n--
			} else if x == id {
				n = b.line[b.at(x)].slice
			}
			if got != n {
				t.Fatalf("Left(%d) = %d, not %d, when %d ran", x, got, n, id)
			}
		}
	}
}

// filled is queues of very many threads, in one row.
func filled(t *testing.T, many int) *ready.Queues {
	t.Helper()
	q := ready.New()
	for i := range many {
		if e := q.Add(i, 4, 1); e != api.OK {
			t.Fatalf("Add(%d) = %d", i, e)
		}
	}
	return q
}

// P11.2, P11.4: a very long row goes round, several times.
func TestLongRow(t *testing.T) {
	const many = 1 << 17
	q := filled(t, many)
	for n := 1; n <= 5*many; n++ {
		if got := q.Tick(); got != n%many {
			t.Fatalf("tick %d: %d runs", n, got)
		}
	}
	for i, id := range q.Row(4) {
		if id != i {
			t.Fatalf("Row(4)[%d] = %d", i, id)
		}
	}
}

// P11.1: very many go by one call, each once, and the others stay in their order.
func TestDropOfVeryMany(t *testing.T) {
	const many = 1 << 17
	q := filled(t, many)
	var l []int
	for id := range many {
		if id%3 != 0 {
			l = append(l, id, id)
		}
	}
	if n := q.Drop(l...); n != len(l)/2 || q.Len() != many-len(l)/2 {
		t.Fatalf("Drop = %d, %d are left", n, q.Len())
	}
	for i, id := range q.Row(4) {
		if id != 3*i || q.Left(id) != 1 {
			t.Fatalf("Row(4)[%d] = %d, Left %d", i, id, q.Left(id))
		}
	}
	for _, id := range l {
		if q.Prio(id) != -1 {
			t.Fatalf("Prio(%d) = %d", id, q.Prio(id))
		}
	}
}

// P11.2: very many rounds of few, with some who come and go, leave all as it is.
func TestManyRounds(t *testing.T) {
	q := ready.New()
	q.Add(0, 1, 2)
	q.Add(1, 1, 3)
	for n := range 1 << 18 {
		if e := q.Add(2, 1, 1); e != api.OK {
			t.Fatalf("round %d: Add = %d", n, e)
		}
		for i, want := range []int{0, 1, 1, 1, 2, 0} {
			if got := q.Tick(); got != want {
				t.Fatalf("round %d, tick %d: %d runs, not %d", n, i, got, want)
			}
		}
		if k := q.Drop(2); k != 1 || q.Run() != 0 || q.Left(0) != 2 {
			t.Fatalf("round %d: Drop = %d, %d runs", n, k, q.Run())
		}
	}
}

// P11.1 to P11.3: queues stand alone: what is done to some turns nothing in others.
func TestQueuesStandAlone(t *testing.T) {
	var s steps = 5
	l := []*both{made(t), made(t), made(t)}
	for range 400 {
		l[s.next(len(l))].anything(t, &s, 8, 3)
		for _, b := range l {
			b.same(t)
		}
	}
}
