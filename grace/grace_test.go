package grace_test

import (
	"math"
	"slices"
	"testing"

	"quartermaster/grace"
)

// adds fails unless there are so many behind that.
func adds(t *testing.T, q *grace.Queue, want int, l ...int) {
	t.Helper()
	if got := q.Add(l...); got != want {
		t.Fatalf("Add(%v) = %d, not %d", l, got, want)
	}
}

// ticks fails unless those are due.
func ticks(t *testing.T, q *grace.Queue, want ...int) {
	t.Helper()
	if got := q.Tick(); !slices.Equal(got, want) {
		t.Fatalf("Tick() = %v, not %v", got, want)
	}
}

// lists fails unless those are there.
func lists(t *testing.T, q *grace.Queue, want ...int) {
	t.Helper()
	if got := q.List(); !slices.Equal(got, want) {
		t.Fatalf("List() = %v, not %v", got, want)
	}
}

// lefts fails unless so many ticks are left of it.
func lefts(t *testing.T, q *grace.Queue, x, want int) {
	t.Helper()
	if got := q.Left(x); got != want {
		t.Fatalf("Left(%d) = %d, not %d", x, got, want)
	}
}

// The chapter's examples.
func TestExamples(t *testing.T) {
	q := grace.New(2)
	adds(t, q, 1, 7)
	ticks(t, q)
	ticks(t, q, 7)
}

// P8.1: of each period from 1 to 16 there is an empty queue, and it has that period all along.
func TestNewOfEachPeriod(t *testing.T) {
	for period := 1; period <= 16; period++ {
		b := made(t, period)
		b.doAdd(t, 5)
		b.same(t)
		b.runOut(t)
	}
}

// P8.1: of another period there is no queue: of those beside the periods, and of far ones that would be a period if they were cut off.
func TestNewOfAnotherPeriodIsNil(t *testing.T) {
	for _, period := range []int{math.MinInt, math.MinInt + 1, -1 << 32, -1<<32 + 1, -1<<31 + 16, -257, -256, -255, -240, -17, -16, -2, -1, 0, 17, 18, 32, 255, 256, 257, 272, 1<<16 + 2, 1 << 31, 1 << 32, 1<<32 + 1, 1<<32 + 16, 1 << 62, math.MaxInt - 1, math.MaxInt} {
		if q := grace.New(period); q != nil {
			t.Errorf("New(%d) isn't nil", period)
		}
	}
}

// P8.1, P8.3: a thing is due at the period-th tick behind its coming, not ahead, and once, of each period; Left counts down to it.
func TestDueAtThePeriodthTick(t *testing.T) {
	for period := 1; period <= 16; period++ {
		q := grace.New(period)
		adds(t, q, 1, 7)
		for n := period; n > 1; n-- {
			lefts(t, q, 7, n)
			lists(t, q, 7)
			ticks(t, q)
		}
		lefts(t, q, 7, 1)
		lists(t, q, 7)
		ticks(t, q, 7)
		for range 40 {
			lefts(t, q, 7, 0)
			lists(t, q)
			ticks(t, q)
		}
		adds(t, q, 1, 7)
		lefts(t, q, 7, period)
	}
}

// P8.3: ticks that went by ahead of a thing's coming don't count, however many there were.
func TestTicksAheadOfTheComing(t *testing.T) {
	for _, period := range []int{1, 2, 3, 7, 15, 16} {
		for ahead := range 40 {
			b := made(t, period)
			for range ahead {
				b.doTick(t)
			}
			b.doAdd(t, 3, 9)
			b.same(t)
			b.runOut(t)
		}
	}
}

// P8.1: Add of nothing adds nothing, and tells how many there are: of an empty queue, between, and when all were due.
func TestAddOfNothing(t *testing.T) {
	q := grace.New(2)
	for range 3 {
		adds(t, q, 0)
		adds(t, q, 0, []int{}...)
	}
	adds(t, q, 3, 4, 4, 5)
	adds(t, q, 3)
	adds(t, q, 3, make([]int, 0, 8)...)
	lists(t, q, 4, 4, 5)
	ticks(t, q)
	adds(t, q, 3)
	adds(t, q, 4, 6)
	ticks(t, q, 4, 4, 5)
	adds(t, q, 1)
	ticks(t, q, 6)
	adds(t, q, 0)
	ticks(t, q)
	lists(t, q)
}

// P8.1: a tick of an empty queue has none that are due, however often, and takes nothing off those that come behind it.
func TestTickOfAnEmptyQueue(t *testing.T) {
	for _, period := range []int{1, 2, 16} {
		q := grace.New(period)
		for range 3 {
			for range 1000 {
				ticks(t, q)
				lists(t, q)
			}
			adds(t, q, 1, -1)
			for range period - 1 {
				ticks(t, q)
			}
			ticks(t, q, -1)
		}
	}
}

// P8.1: what is due is no longer among those that Add counts, at the same tick already.
func TestAddCountsThoseThatAreThere(t *testing.T) {
	q := grace.New(3)
	adds(t, q, 1, 1)
	ticks(t, q)
	adds(t, q, 3, 2, 3)
	ticks(t, q)
	adds(t, q, 6, 4, 5, 6)
	ticks(t, q, 1)
	adds(t, q, 6, 7)
	ticks(t, q, 2, 3)
	adds(t, q, 5, 8)
	ticks(t, q, 4, 5, 6)
	adds(t, q, 2)
	ticks(t, q, 7)
	ticks(t, q, 8)
	adds(t, q, 0)
}

// P8.1, P8.2: those that are due together are due in the order in which they were added, by one call or by many, whether they rise, fall, or come twice; List has the same order.
func TestOrderOfTheAdding(t *testing.T) {
	for _, l := range [][]int{{1, 2, 3, 4, 5}, {5, 4, 3, 2, 1}, {3, 1, 5, 1, 3, 3, 2}, {0, 0, 0, 0}, edges, {math.MaxInt, math.MinInt, 0, math.MaxInt, -1}} {
		for _, period := range []int{1, 2, 5, 16} {
			b := made(t, period)
			b.doAdd(t, l...)
			lists(t, b.q, l...)
			for _, x := range l {
				b.doAdd(t, x)
				b.same(t)
			}
			b.doAdd(t, l...)
			want := slices.Concat(l, l, l)
			lists(t, b.q, want...)
			for range period - 1 {
				b.doTick(t)
			}
			lists(t, b.q, want...)
			if got := b.doTick(t); !slices.Equal(got, want) {
				t.Fatalf("Tick() = %v, not %v", got, want)
			}
			lists(t, b.q)
		}
	}
}

// P8.1, P8.3: things that came at different ticks are due at different ones, each at its own, and List has those that came earlier ahead.
func TestThingsOfDifferentTicks(t *testing.T) {
	q := grace.New(4)
	adds(t, q, 2, 9, 8)
	ticks(t, q)
	adds(t, q, 3, 7)
	ticks(t, q)
	ticks(t, q)
	adds(t, q, 5, 6, 8)
	lists(t, q, 9, 8, 7, 6, 8)
	ticks(t, q, 9, 8)
	lists(t, q, 7, 6, 8)
	ticks(t, q, 7)
	lists(t, q, 6, 8)
	adds(t, q, 3, 1)
	ticks(t, q)
	ticks(t, q, 6, 8)
	ticks(t, q)
	ticks(t, q, 1)
	ticks(t, q)
	lists(t, q)
}

// P8.1, P8.3: a thing that comes at each tick is due at each one, the period behind its coming.
func TestOneAtEachTick(t *testing.T) {
	for period := 1; period <= 16; period++ {
		q := grace.New(period)
		for n := range 100 {
			adds(t, q, min(n+1, period), n)
			lefts(t, q, n, period)
			first := n - period + 1
			if first < 0 {
				ticks(t, q)
				continue
			}
			lefts(t, q, first, 1)
			ticks(t, q, first)
			lefts(t, q, first, 0)
		}
	}
}

// P8.2: Left of what isn't there is 0: of an empty queue, beside others, and of what was due.
func TestLeftOfWhatIsNotThere(t *testing.T) {
	b := made(t, 3)
	for _, x := range edges {
		lefts(t, b.q, x, 0)
	}
	b.doAdd(t, 100, 103)
	for _, x := range edges {
		lefts(t, b.q, x, 0)
	}
	lefts(t, b.q, 99, 0)
	lefts(t, b.q, 101, 0)
	lefts(t, b.q, 3, 0)
	b.runOut(t)
	lefts(t, b.q, 100, 0)
	lefts(t, b.q, 103, 0)
}

// P8.2: Left of what is there more than once is the first one's, which goes at first.
func TestLeftOfTheFirstOne(t *testing.T) {
	q := grace.New(4)
	adds(t, q, 2, 1, 5)
	ticks(t, q)
	adds(t, q, 4, 5, 5)
	lefts(t, q, 5, 3)
	ticks(t, q)
	adds(t, q, 5, 5)
	lefts(t, q, 5, 2)
	ticks(t, q)
	lefts(t, q, 5, 1)
	ticks(t, q, 1, 5)
	lefts(t, q, 5, 1)
	lefts(t, q, 1, 0)
	ticks(t, q, 5, 5)
	lefts(t, q, 5, 1)
	ticks(t, q, 5)
	lefts(t, q, 5, 0)
	adds(t, q, 1, 5)
	lefts(t, q, 5, 4)
}

// P8.1 to P8.3: whole numbers of all sizes are told whole, and apart.
func TestNumbersAreToldWhole(t *testing.T) {
	b := made(t, 16)
	for _, x := range edges {
		b.doAdd(t, x)
		b.same(t)
		b.doTick(t)
		b.same(t)
	}
	b.runOut(t)
}

// P8.1 to P8.3: like the model, by all rows of eight steps, each of which is a tick, or the adding of nothing, of one or of two.
func TestAllShortRows(t *testing.T) {
	for period := 1; period <= 4; period++ {
		for row := range 1 << 16 {
			b := made(t, period)
			for i := range 8 {
				switch row >> (2 * i) % 4 {
				case 0:
					b.doTick(t)
				case 1:
					b.doAdd(t)
				case 2:
					b.doAdd(t, i)
				case 3:
					b.doAdd(t, i, 2)
				}
				if got, want := b.q.List(), b.all(); !slices.Equal(got, want) {
					t.Fatalf("the row %d: List() = %v, not %v", row, got, want)
				}
			}
			for x := range 8 {
				b.sameLeft(t, x)
			}
		}
	}
}

// P8.1 to P8.3: like the model, of each period, in mixed order; List and Left are looked at all along.
func TestLikeTheModel(t *testing.T) {
	for period := 1; period <= 16; period++ {
		s := steps(period)
		b := made(t, period)
		for range 600 {
			switch k := s.next(10); {
			case k < 5:
				b.doTick(t)
			case k < 6:
				b.doAdd(t)
			case k < 8:
				b.doAdd(t, s.next(9)-4)
			default:
				var l []int
				for range s.next(7) {
					l = append(l, s.next(9)-4)
				}
				b.doAdd(t, l...)
			}
			b.same(t)
		}
		b.runOut(t)
	}
}

// P8.3: of things that are all different, each is due once, exactly the period behind its coming.
func TestEachIsDueOnce(t *testing.T) {
	for period := 1; period <= 16; period++ {
		s := steps(100 + period)
		q := grace.New(period)
		var came, due []int
		for now := range 500 {
			for range s.next(5) {
				came = append(came, now)
				q.Add(len(came) - 1)
			}
			for _, x := range q.Tick() {
				if now+1-came[x] != period {
					t.Fatalf("%d came at %d, and is due at %d", x, came[x], now+1)
				}
				due = append(due, x)
			}
		}
		due = append(due, q.List()...)
		if len(due) != len(came) {
			t.Fatalf("%d are due or there, of %d", len(due), len(came))
		}
		for i, x := range due {
			if i != x {
				t.Fatalf("the %d-th that is due is %d", i, x)
			}
		}
	}
}

// P8.3: after very many ticks, and very many things, the next ones are due like the first ones.
func TestAfterManyTicks(t *testing.T) {
	for _, period := range []int{1, 16} {
		q := grace.New(period)
		for n := range 1 << 20 {
			adds(t, q, min(n+1, period), n)
			if got := q.Tick(); n >= period-1 && (len(got) != 1 || got[0] != n-period+1) {
				t.Fatalf("the tick %d: %v", n+1, got)
			}
		}
		if got := len(q.List()); got != period-1 {
			t.Fatalf("%d are left", got)
		}
	}
}

// P8.1 to P8.3: very many things are added by one call, and all are due together.
func TestVeryManyThings(t *testing.T) {
	var l []int
	for i := range 1 << 20 {
		l = append(l, i*7%1000)
	}
	q := grace.New(16)
	adds(t, q, 1<<20, l...)
	ticks(t, q)
	adds(t, q, 2<<20, l...)
	for range 14 {
		ticks(t, q)
	}
	lefts(t, q, 999, 1)
	lists(t, q, slices.Concat(l, l)...)
	ticks(t, q, l...)
	lefts(t, q, 999, 1)
	lists(t, q, l...)
	ticks(t, q, l...)
	lists(t, q)
}

// spoil sets all that a list has, and its spare room.
func spoil(l []int) {
	l = l[:cap(l)]
	for i := range l {
		l[i] = -77
	}
}

// P8.1, P8.2: lists that were handed in, or answered, are whoever's has them: what is done to them, or behind them, turns nothing in the queue, and nothing in another answer.
func TestListsAreNewMemory(t *testing.T) {
	b := made(t, 2)
	for round := range 50 {
		in := append(make([]int, 0, 9), round, 5, round)
		b.doAdd(t, in...)
		spoil(in)
		b.same(t)
		first, second := b.q.List(), b.q.List()
		want := slices.Clone(second)
		spoil(first)
		first = append(first, 8, 8)
		if !slices.Equal(second, want) {
			t.Fatalf("the second list is %v, not %v", second, want)
		}
		b.same(t)
		due := b.doTick(t)
		dueWas := slices.Clone(due)
		b.doAdd(t, 6, 6)
		if !slices.Equal(due, dueWas) || !slices.Equal(second, want) {
			t.Fatalf("the answers are %v, %v, not %v, %v", due, second, dueWas, want)
		}
		spoil(due)
		due = append(due, 9, 9, 9)
		b.same(t)
		spoil(due)
		spoil(first)
		spoil(second)
		b.same(t)
	}
	b.runOut(t)
}

// P8.1, P8.2: an answer stays as it is, whatever is asked and done behind it, and shares nothing with those behind it.
func TestAnswersStay(t *testing.T) {
	var s steps = 8
	b := made(t, 2)
	var answers, copies [][]int
	for round := range 100 {
		// Different numbers of things, since an answer of one may fit into the spare room of the one ahead of it.
		b.doAdd(t, []int{round, -round, round / 3, 5, 6, round + 1}[:s.next(7)]...)
		for _, l := range [][]int{b.doTick(t), b.q.List()} {
			answers, copies = append(answers, l), append(copies, slices.Clone(l))
		}
		for i, l := range answers {
			if !slices.Equal(l, copies[i]) {
				t.Fatalf("the answer %d is %v now, not %v", i, l, copies[i])
			}
		}
	}
	for i, l := range answers {
		spoil(l)
		for k := i + 1; k < len(answers); k++ {
			if !slices.Equal(answers[k], copies[k]) {
				t.Fatalf("the answer %d is %v, not %v, when the answer %d is changed", k, answers[k], copies[k], i)
			}
		}
	}
	b.same(t)
	b.runOut(t)
}

// P8.1: what is handed in isn't changed, nor its spare room, by this call or a later one.
func TestWhatIsHandedInStays(t *testing.T) {
	room := []int{1, 2, 3, 4, 5, 6}
	q := grace.New(1)
	adds(t, q, 2, room[:2]...)
	adds(t, q, 4, 70, 71)
	ticks(t, q, 1, 2, 70, 71)
	adds(t, q, 3, room[1:4]...)
	adds(t, q, 4, 72)
	ticks(t, q, 2, 3, 4, 72)
	if !slices.Equal(room, []int{1, 2, 3, 4, 5, 6}) {
		t.Errorf("what was handed in is %v", room)
	}
}

// P8.2: asking turns nothing, however often.
func TestAskingTurnsNothing(t *testing.T) {
	b := made(t, 3)
	for i := range 6 {
		b.doAdd(t, i, i/2)
		for range 5 {
			b.q.Period()
			b.same(t)
		}
		b.doTick(t)
	}
	b.runOut(t)
}

// P8.1, P8.3: queues stand alone: what is done to one turns nothing in another one.
func TestQueuesStandAlone(t *testing.T) {
	var s steps = 5
	l := []*both{made(t, 1), made(t, 2), made(t, 2), made(t, 16)}
	for range 300 {
		b := l[s.next(len(l))]
		if s.next(2) == 0 {
			b.doAdd(t, s.next(4), s.next(4))
		} else {
			b.doTick(t)
		}
		for _, x := range l {
			x.same(t)
		}
	}
}

// P8.1, P8.2: a nil queue has the period 0, and nothing, whatever it is asked, or given.
func TestNilQueue(t *testing.T) {
	var none *grace.Queue
	for _, q := range []*grace.Queue{none, grace.New(0), grace.New(17)} {
		for range 3 {
			if got := q.Period(); got != 0 {
				t.Errorf("Period() = %d", got)
			}
			adds(t, q, 0)
			adds(t, q, 0, 7)
			adds(t, q, 0, edges...)
			lists(t, q)
			ticks(t, q)
			for _, x := range edges {
				lefts(t, q, x, 0)
			}
			lefts(t, q, 7, 0)
		}
	}
}
