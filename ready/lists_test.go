package ready_test

import (
	"slices"
	"testing"
)

// spoil sets all that a list has, and its spare room, and puts more behind it.
func spoil(l []int, x int) {
	l = l[:cap(l)]
	for i := range l {
		l[i] = x
	}
	_ = append(l, x, x)
}

// P11.3: rows that were answered, and are changed by whoever has them, turn nothing in the queues.
func TestChangedRowsTurnNothing(t *testing.T) {
	b := lay(t, [2]int{2, 3}, [2]int{2, 2}, [2]int{2, 1}, [2]int{5, 1}, [2]int{5, 4})
	for range 40 {
		for prio := range 8 {
			spoil(b.q.Row(prio), 99)
			b.same(t)
		}
		b.doTick(t)
	}
	b.doDrop(t, 2, 4)
	for prio := range 8 {
		spoil(b.q.Row(prio), 99)
	}
	b.same(t)
	b.doAdd(t, 9, 2, 2)
	b.same(t)
}

// P11.3: a row that was answered stays as it is, whatever is done behind it, and shares nothing with another one.
func TestAnsweredRowsStay(t *testing.T) {
	var s steps = 77
	b := made(t)
	var got, was [][]int
	for range 300 {
		b.anything(t, &s, 12, 3)
		for prio := range 3 {
			l := b.q.Row(prio)
			got, was = append(got, l), append(was, slices.Clone(l))
		}
	}
	for i, l := range got {
		if !slices.Equal(l, was[i]) {
			t.Fatalf("a row is %v now, not %v", l, was[i])
		}
		spoil(l, -1)
	}
	b.same(t)
}

// P11.1: the list of those to drop isn't changed, nor its spare room, and isn't kept: what becomes of it then turns nothing.
func TestDroppedListIsLeftAlone(t *testing.T) {
	b := lay(t, [2]int{2, 3}, [2]int{2, 2}, [2]int{2, 1}, [2]int{5, 1}, [2]int{5, 4})
	room := []int{-7, 4, 99, 1, 4, 2, 8, 3}
	l := room[1:5:7]
	if n := b.doDrop(t, l...); n != 2 {
		t.Fatalf("Drop = %d", n)
	}
	if want := []int{-7, 4, 99, 1, 4, 2, 8, 3}; !slices.Equal(room, want) {
		t.Errorf("the list is %v now, in %v", l, room)
	}
	spoil(l, 5)
	b.same(t)
	b.doTick(t)
	b.same(t)
	if n := b.doDrop(t, room...); n != 2 {
		t.Errorf("Drop(%v) = %d", room, n)
	}
	b.same(t)
}

// P11.1 to P11.3: asking turns nothing, however often.
func TestAskingTurnsNothing(t *testing.T) {
	b := lay(t, [2]int{2, 3}, [2]int{2, 2}, [2]int{0, 1})
	for range 20 {
		b.same(t)
	}
	ticks(t, b, 1, 1, 2, 2, 1)
}
