package ready_test

import (
	"slices"
	"testing"

	"quartermaster/api"
	"quartermaster/ready"
)

// row fails unless those stand in the priority's row.
func row(t *testing.T, q *ready.Queues, prio int, want ...int) {
	t.Helper()
	if got := q.Row(prio); !slices.Equal(got, want) {
		t.Fatalf("Row(%d) = %v, not %v", prio, got, want)
	}
}

// left fails unless so many ticks are left of those threads' slices: a thread, its ticks, and so on.
func left(t *testing.T, q *ready.Queues, l ...int) {
	t.Helper()
	for i := 0; i < len(l); i += 2 {
		if got := q.Left(l[i]); got != l[i+1] {
			t.Fatalf("Left(%d) = %d, not %d", l[i], got, l[i+1])
		}
	}
}

// ticks fails unless those run behind each of as many ticks.
func ticks(t *testing.T, b *both, want ...int) {
	t.Helper()
	for i, id := range want {
		if got := b.doTick(t); got != id {
			t.Fatalf("tick %d: %d runs, not %d", i, got, id)
		}
		b.same(t)
	}
}

// runs fails unless that thread runs.
func runs(t *testing.T, b *both, id int) {
	t.Helper()
	if got := b.q.Run(); got != id {
		t.Fatalf("Run() = %d, not %d", got, id)
	}
}

// The chapter's example: Add(4, 1, 2), Add(5, 1, 1), Add(6, 0, 3): Run: 4. Tick: 4; Tick: 5; Tick: 4. Drop(4, 5, 9): 2; Run: 6.
func TestExample(t *testing.T) {
	q := ready.New()
	for _, x := range [][3]int{{4, 1, 2}, {5, 1, 1}, {6, 0, 3}} {
		if e := q.Add(x[0], x[1], x[2]); e != api.OK {
			t.Fatalf("Add(%v) = %d", x, e)
		}
	}
	if got := q.Run(); got != 4 {
		t.Errorf("Run() = %d", got)
	}
	for i, want := range []int{4, 5, 4} {
		if got := q.Tick(); got != want {
			t.Errorf("tick %d: %d", i, got)
		}
	}
	if n := q.Drop(4, 5, 9); n != 2 || q.Run() != 6 {
		t.Errorf("Drop = %d, Run() = %d", n, q.Run())
	}
}

// P11.1: new queues have no threads, and nobody runs, whatever is asked and done.
func TestNewIsEmpty(t *testing.T) {
	b := made(t)
	if b.q == nil || b.q.Len() != 0 {
		t.Fatalf("New() has %d threads", b.q.Len())
	}
	withoutThreads(t, b)
}

// withoutThreads fails unless queues without threads are such.
func withoutThreads(t *testing.T, b *both) {
	t.Helper()
	for range 20 {
		if run, tick, yield := b.q.Run(), b.doTick(t), b.doYield(t); run != -1 || tick != -1 || yield != -1 {
			t.Fatalf("without threads: Run %d, Tick %d, Yield %d", run, tick, yield)
		}
		if n := b.doDrop(t, 0, 1, -1, 7); n != 0 {
			t.Fatalf("without threads: %d went", n)
		}
		b.same(t)
	}
}

// P11.1: ticks and yields without threads turn nothing for those who come then.
func TestTicksBeforeTheFirstThread(t *testing.T) {
	b := made(t)
	for range 5 {
		b.doTick(t)
		b.doYield(t)
	}
	b.doAdd(t, 0, 0, 3)
	left(t, b.q, 0, 3)
	ticks(t, b, 0, 0, 0)
	left(t, b.q, 0, 3)
}

// P11.1: a thread comes to the end of its priority's row, with all of its slice left, whatever its number.
func TestAddAtTheEnd(t *testing.T) {
	b := made(t, 9, 4, 7, 3)
	for i, id := range []int{9, 0, 4, 7, 3} {
		if e := b.doAdd(t, id, 5, i+1); e != api.OK {
			t.Fatalf("Add(%d) = %d", id, e)
		}
		b.same(t)
	}
	row(t, b.q, 5, 9, 0, 4, 7, 3)
	left(t, b.q, 9, 1, 0, 2, 4, 3, 7, 4, 3, 5)
	runs(t, b, 9)
	if n := b.q.Len(); n != 5 {
		t.Errorf("Len() = %d", n)
	}
}

// P11.1: a thread comes behind those who went round ahead of its coming.
func TestAddBehindWhoWentRound(t *testing.T) {
	b := lay(t, [2]int{2, 3}, [2]int{2, 3})
	b.doYield(t)
	b.doAdd(t, 3, 2, 3)
	row(t, b.q, 2, 2, 1, 3)
	b.doYield(t)
	row(t, b.q, 2, 1, 3, 2)
	b.same(t)
}

// P11.1: every priority and every slice that may be, and those next to them that may not.
func TestAllPrioritiesAndSlices(t *testing.T) {
	b := made(t)
	for prio := -3; prio <= api.MaxPrio+3; prio++ {
		for slice := -3; slice <= api.MaxSlice+3; slice++ {
			id := 1000 + 100*prio + slice
			want := api.OK
			if prio < 0 || prio > 7 || slice < 1 || slice > 16 {
				want = api.ErrArg
			}
			if e := b.doAdd(t, id, prio, slice); e != want {
				t.Fatalf("Add(%d, %d, %d) = %d, not %d", id, prio, slice, e, want)
			}
			b.ids = append(b.ids, id)
		}
	}
	b.same(t)
	if n := b.q.Len(); n != 8*16 {
		t.Errorf("Len() = %d", n)
	}
}

// P11.1: numbers are whole: 0, great ones, and those that would be one if they were cut off, are threads of their own.
func TestFarNumbers(t *testing.T) {
	b := made(t)
	ids := slices.Concat([]int{0, 1, 2, 7}, far)
	for i, id := range ids {
		if e := b.doAdd(t, id, i%3, i%16+1); e != api.OK {
			t.Fatalf("Add(%d) = %d", id, e)
		}
		b.same(t)
	}
	for range 100 {
		b.doTick(t)
	}
	for _, id := range ids {
		if n := b.doDrop(t, id); n != 1 {
			t.Fatalf("Drop(%d) = %d", id, n)
		}
		b.same(t)
	}
	withoutThreads(t, b)
}

// wrong is what may not be added, in queues that have the thread 1, and the error.
type wrong struct {
	id, prio, slice int
	e               api.Errno
}

// wrongs are each error by itself, and beside the others.
func wrongs() []wrong {
	var l []wrong
	for _, id := range below {
		l = append(l, wrong{id, 2, 3, api.ErrArg}, wrong{id, 8, 3, api.ErrArg}, wrong{id, 2, 0, api.ErrArg}, wrong{id, -1, 17, api.ErrArg})
	}
	for _, prio := range noPrios {
		l = append(l, wrong{9, prio, 3, api.ErrArg}, wrong{1, prio, 3, api.ErrArg}, wrong{1, prio, 0, api.ErrArg}, wrong{0, prio, 17, api.ErrArg})
	}
	for _, slice := range noSlices {
		l = append(l, wrong{9, 2, slice, api.ErrArg}, wrong{1, 2, slice, api.ErrArg}, wrong{1, -1, slice, api.ErrArg}, wrong{0, 8, slice, api.ErrArg})
	}
	for prio := range 8 {
		for slice := 1; slice <= 16; slice++ {
			l = append(l, wrong{1, prio, slice, api.ErrTwice})
		}
	}
	return l
}

// P11.1: what may not be added isn't: ErrArg ahead of ErrTwice, and nothing has turned, in the midst of a slice, nor in what comes then.
func TestAddErrors(t *testing.T) {
	b := lay(t, [2]int{2, 4}, [2]int{2, 2}, [2]int{0, 3})
	b.ids = append(b.ids, 9)
	b.doTick(t)
	for _, x := range wrongs() {
		if e := b.doAdd(t, x.id, x.prio, x.slice); e != x.e {
			t.Fatalf("Add(%d, %d, %d) = %d, not %d", x.id, x.prio, x.slice, e, x.e)
		}
		b.same(t)
	}
	left(t, b.q, 1, 3, 2, 2, 3, 3)
	ticks(t, b, 1, 1, 2, 2, 1)
	if e := b.doAdd(t, 9, 2, 3); e != api.OK {
		t.Errorf("Add(9) = %d", e)
	}
	row(t, b.q, 2, 1, 2, 9)
}

// P11.1: in queues without threads each wrong argument is ErrArg too, and nobody is there then.
func TestAddErrorsWithoutThreads(t *testing.T) {
	b := made(t, 9)
	for _, x := range wrongs() {
		if x.e != api.ErrArg {
			continue
		}
		if e := b.doAdd(t, x.id, x.prio, x.slice); e != api.ErrArg {
			t.Fatalf("Add(%d, %d, %d) = %d", x.id, x.prio, x.slice, e)
		}
	}
	withoutThreads(t, b)
}

// P11.1: a thread that is there is ErrTwice wherever it stands: first, between others, last, of a row that runs or waits.
func TestAddTwice(t *testing.T) {
	b := lay(t, [2]int{3, 2}, [2]int{3, 2}, [2]int{3, 2}, [2]int{1, 2}, [2]int{1, 2})
	for id := 1; id <= 5; id++ {
		for prio := range 8 {
			if e := b.doAdd(t, id, prio, 5); e != api.ErrTwice {
				t.Fatalf("Add(%d, %d) = %d", id, prio, e)
			}
		}
	}
	b.same(t)
	row(t, b.q, 3, 1, 2, 3)
	row(t, b.q, 1, 4, 5)
}

// P11.1: who went and comes again has the new priority, and all of the new slice, at the row's end.
func TestAddAgain(t *testing.T) {
	b := lay(t, [2]int{3, 4}, [2]int{3, 2}, [2]int{5, 9})
	ticks(t, b, 3, 3)
	if n := b.doDrop(t, 3); n != 1 {
		t.Fatalf("Drop(3) = %d", n)
	}
	b.same(t)
	ticks(t, b, 1)
	if e := b.doAdd(t, 3, 3, 2); e != api.OK {
		t.Fatalf("Add(3) = %d", e)
	}
	row(t, b.q, 3, 1, 2, 3)
	row(t, b.q, 5)
	left(t, b.q, 1, 3, 2, 2, 3, 2)
	b.doDrop(t, 1)
	if e := b.doAdd(t, 1, 3, 4); e != api.OK {
		t.Fatalf("Add(1) = %d", e)
	}
	row(t, b.q, 3, 2, 3, 1)
	left(t, b.q, 1, 4)
	b.doDrop(t, 2, 3)
	b.doAdd(t, 2, 0, 16)
	b.doAdd(t, 3, 7, 1)
	b.same(t)
	ticks(t, b, 3, 3)
	b.doDrop(t, 3)
	ticks(t, b, 1, 1, 1, 1)
	left(t, b.q, 1, 4, 2, 16)
}

// P11.1: how many went: none of no list, each once, none of those who aren't there.
func TestDropCounts(t *testing.T) {
	for i, x := range []struct {
		l    []int
		want int
	}{
		{nil, 0}, {[]int{}, 0}, {[]int{0}, 0}, {[]int{6}, 0}, {[]int{6, 0, 6, 99}, 0}, {below, 0}, {far, 0},
		{[]int{1}, 1}, {[]int{5}, 1}, {[]int{3, 3}, 1}, {[]int{3, 3, 3, 0, 3}, 1}, {[]int{9, 2, 9}, 1},
		{[]int{1, 2}, 2}, {[]int{2, 1}, 2}, {[]int{4, 1, 4, 1}, 2}, {[]int{1, -1, 5, 1 << 32, 1<<32 + 3}, 2},
		{[]int{5, 4, 3, 2, 1}, 5}, {[]int{1, 1, 2, 2, 3, 3, 4, 4, 5, 5, 6, 6}, 5},
	} {
		b := lay(t, [2]int{2, 3}, [2]int{2, 2}, [2]int{2, 5}, [2]int{0, 1}, [2]int{7, 2})
		if n := b.doDrop(t, x.l...); n != x.want {
			t.Errorf("%d: Drop(%v) = %d, not %d", i, x.l, n, x.want)
		}
		b.same(t)
		if n := b.doDrop(t, x.l...); n != 0 {
			t.Errorf("%d: Drop(%v) again = %d", i, x.l, n)
		}
		b.same(t)
	}
}

// P11.1: every choice of six threads in two rows goes, and the others stay in their order, with what they have left.
func TestDropOfEveryChoice(t *testing.T) {
	for choice := range 1 << 6 {
		b := lay(t, [2]int{4, 3}, [2]int{4, 2}, [2]int{1, 5}, [2]int{4, 4}, [2]int{1, 6}, [2]int{4, 1})
		ticks(t, b, 1, 1)
		var l, high, low []int
		for id := 1; id <= 6; id++ {
			switch {
			case choice>>(id-1)&1 == 1:
				l = append(l, id)
			case id == 3 || id == 5:
				low = append(low, id)
			default:
				high = append(high, id)
			}
		}
		if n := b.doDrop(t, l...); n != len(l) {
			t.Fatalf("Drop(%v) = %d", l, n)
		}
		b.same(t)
		row(t, b.q, 4, high...)
		row(t, b.q, 1, low...)
		for range 20 {
			b.doTick(t)
			b.sameNear(t)
		}
	}
}

// P11.1: when who runs goes, the next one of its row runs, with what it has left, and then a lower one.
func TestDropWhoRuns(t *testing.T) {
	b := lay(t, [2]int{2, 3}, [2]int{2, 2}, [2]int{1, 4})
	ticks(t, b, 1, 1)
	b.doDrop(t, 1)
	runs(t, b, 2)
	left(t, b.q, 1, 0, 2, 2, 3, 4)
	ticks(t, b, 2)
	b.doDrop(t, 2)
	runs(t, b, 3)
	left(t, b.q, 3, 4)
	b.doDrop(t, 3)
	withoutThreads(t, b)
}

// P11.1: who goes from between others, or from the end, leaves them as they were: who runs has its ticks.
func TestDropOfOthers(t *testing.T) {
	b := lay(t, [2]int{2, 3}, [2]int{2, 2}, [2]int{2, 1}, [2]int{2, 4})
	ticks(t, b, 1, 1)
	b.doDrop(t, 2)
	row(t, b.q, 2, 1, 3, 4)
	left(t, b.q, 1, 1, 3, 1, 4, 4)
	b.doDrop(t, 4)
	row(t, b.q, 2, 1, 3)
	runs(t, b, 1)
	ticks(t, b, 3, 1, 1, 1, 3)
}

// P11.1, P11.4: who runs is the first one of the highest row that has one, whoever came first.
func TestRunIsOfTheHighest(t *testing.T) {
	for _, order := range [][]int{{0, 1, 2, 3, 4, 5, 6, 7}, {7, 6, 5, 4, 3, 2, 1, 0}, {3, 7, 0, 5, 1, 6, 2, 4}} {
		b := made(t)
		highest := -1
		for _, prio := range order {
			b.doAdd(t, 100+prio, prio, 2)
			highest = max(highest, prio)
			runs(t, b, 100+highest)
			b.doAdd(t, 50+prio, prio, 2)
			runs(t, b, 100+highest)
			b.same(t)
		}
		for prio := api.MaxPrio; prio >= 0; prio-- {
			runs(t, b, 100+prio)
			b.doDrop(t, 100+prio)
			runs(t, b, 50+prio)
			b.doDrop(t, 50+prio)
		}
		withoutThreads(t, b)
	}
}

// P11.2: a tick takes one of who runs alone; the one that uses the slice up sends it to its row's end, with all of it again.
func TestTick(t *testing.T) {
	b := lay(t, [2]int{6, 3}, [2]int{6, 1}, [2]int{6, 2}, [2]int{0, 2})
	ticks(t, b, 1)
	left(t, b.q, 1, 2, 2, 1, 3, 2, 4, 2)
	ticks(t, b, 1)
	left(t, b.q, 1, 1, 2, 1, 3, 2, 4, 2)
	row(t, b.q, 6, 1, 2, 3)
	ticks(t, b, 2)
	left(t, b.q, 1, 3, 2, 1, 3, 2, 4, 2)
	row(t, b.q, 6, 2, 3, 1)
	ticks(t, b, 3)
	row(t, b.q, 6, 3, 1, 2)
	left(t, b.q, 1, 3, 2, 1, 3, 2, 4, 2)
	ticks(t, b, 3, 1, 1, 1, 2)
	row(t, b.q, 4)
	row(t, b.q, 0, 4)
}

// P11.2: alone in its row, a thread runs on, with all of its slice again, also above others.
func TestTickAlone(t *testing.T) {
	for slice := 1; slice <= api.MaxSlice; slice++ {
		b := lay(t, [2]int{3, slice}, [2]int{2, 5})
		for range 3 {
			for n := slice - 1; n >= 0; n-- {
				if got := b.doTick(t); got != 1 {
					t.Fatalf("Tick() = %d", got)
				}
				if n == 0 {
					left(t, b.q, 1, slice)
				} else {
					left(t, b.q, 1, n)
				}
			}
		}
		left(t, b.q, 2, 5)
	}
}

// P11.2: who yields goes round with something left, and has all again; alone it runs on; others have what they have.
func TestYield(t *testing.T) {
	b := lay(t, [2]int{4, 5}, [2]int{4, 3}, [2]int{1, 2})
	ticks(t, b, 1, 1)
	left(t, b.q, 1, 3)
	if id := b.doYield(t); id != 2 {
		t.Fatalf("Yield() = %d", id)
	}
	row(t, b.q, 4, 2, 1)
	left(t, b.q, 1, 5, 2, 3, 3, 2)
	if id := b.doYield(t); id != 1 {
		t.Fatalf("Yield() = %d", id)
	}
	row(t, b.q, 4, 1, 2)
	b.doDrop(t, 2)
	ticks(t, b, 1, 1, 1, 1)
	left(t, b.q, 1, 1)
	if id := b.doYield(t); id != 1 {
		t.Fatalf("Yield() = %d", id)
	}
	left(t, b.q, 1, 5, 3, 2)
	b.same(t)
}

// P11.3: no such priority has no row, also where those are full that it would be if it were cut off.
func TestRowOfNoSuchPriority(t *testing.T) {
	b := made(t)
	for prio := range 8 {
		b.doAdd(t, prio, prio, 1)
		row(t, b.q, prio, prio)
	}
	for _, prio := range noPrios {
		row(t, b.q, prio)
	}
}

// P11.3: who isn't there, never was, or went, has no ticks left and no priority; one of the priority 0 has it.
func TestNoSuchThread(t *testing.T) {
	b := lay(t, [2]int{0, 3}, [2]int{7, 16})
	for _, id := range slices.Concat(below, far, []int{0, 3}) {
		if l, p := b.q.Left(id), b.q.Prio(id); l != 0 || p != -1 {
			t.Fatalf("%d: Left %d, Prio %d", id, l, p)
		}
	}
	if p := b.q.Prio(1); p != 0 {
		t.Errorf("Prio(1) = %d", p)
	}
	if p := b.q.Prio(2); p != 7 {
		t.Errorf("Prio(2) = %d", p)
	}
	b.doDrop(t, 1, 2)
	for _, id := range []int{1, 2} {
		if l, p := b.q.Left(id), b.q.Prio(id); l != 0 || p != -1 {
			t.Errorf("%d went: Left %d, Prio %d", id, l, p)
		}
	}
}

// P11.1 to P11.3: nil queues: ErrArg, 0, -1, none, whatever the arguments.
func TestNil(t *testing.T) {
	var q *ready.Queues
	for _, n := range slices.Concat(below, far, []int{0, 1, 7, 8, 16, 17}) {
		for _, x := range [][3]int{{n, 1, 1}, {1, n, 1}, {1, 1, n}, {n, n, n}} {
			if e := q.Add(x[0], x[1], x[2]); e != api.ErrArg {
				t.Fatalf("Add(%v) = %d", x, e)
			}
		}
		if k := q.Drop(n, n, 1); k != 0 {
			t.Fatalf("Drop(%d) = %d", n, k)
		}
		if l := q.Row(n); len(l) != 0 {
			t.Fatalf("Row(%d) = %v", n, l)
		}
		if l, p := q.Left(n), q.Prio(n); l != 0 || p != -1 {
			t.Fatalf("%d: Left %d, Prio %d", n, l, p)
		}
	}
	if q.Drop() != 0 || q.Len() != 0 {
		t.Errorf("Drop() = %d, Len() = %d", q.Drop(), q.Len())
	}
	if run, tick, yield := q.Run(), q.Tick(), q.Yield(); run != -1 || tick != -1 || yield != -1 {
		t.Errorf("Run %d, Tick %d, Yield %d", run, tick, yield)
	}
}

// P11.4: who is passed over by a higher one has what it had left, still stands first, and runs on with that.
func TestPassedOver(t *testing.T) {
	b := lay(t, [2]int{2, 5}, [2]int{2, 3})
	ticks(t, b, 1, 1)
	b.doAdd(t, 7, 3, 2)
	b.same(t)
	runs(t, b, 7)
	ticks(t, b, 7, 7, 7)
	row(t, b.q, 2, 1, 2)
	left(t, b.q, 1, 3, 2, 3, 7, 1)
	b.doAdd(t, 8, 6, 1)
	ticks(t, b, 8, 8)
	left(t, b.q, 1, 3, 7, 1)
	b.doDrop(t, 8)
	runs(t, b, 7)
	left(t, b.q, 7, 1)
	b.doYield(t)
	left(t, b.q, 7, 2)
	b.doDrop(t, 7)
	runs(t, b, 1)
	left(t, b.q, 1, 3)
	ticks(t, b, 1, 1, 2, 2, 2, 1)
}
