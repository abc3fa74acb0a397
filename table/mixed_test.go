package table_test

import (
	"math"
	"slices"
	"testing"

	"quartermaster/api"
)

// slot is one of the table's that are set, or any one, and now and then none.
func (b *both) slot(s *steps, i int) int {
	l := b.models[i].slots()
	switch x := s.next(20); {
	case x == 0:
		return s.of(noSlots)
	case x < 10 && len(l) > 0:
		return s.of(l)
	case x < 14 && len(l) > 0:
		// One of a leaf that is there.
		return s.of(l)/16*16 + s.next(16)
	default:
		return s.next(256)
	}
}

// step does one step to both, to a table or to what is beside the tables.
func (b *both) step(t *testing.T, s *steps, factories int) api.Errno {
	t.Helper()
	i := s.next(len(b.tables))
	switch x := s.next(100); {
	case x < 50:
		return b.doSet(t, i, b.slot(s, i), uint64(s.next(1<<30)+1)<<s.next(34), uint64(s.next(5))<<s.next(64))
	case x < 53:
		return b.doSet(t, i, b.slot(s, i), 0, 1)
	case x < 96:
		return b.doClear(t, i, b.slot(s, i))
	case x < 99:
		b.doOther(t, s.next(factories), s.of(classes))
	default:
		b.doTake(t, s.next(2))
	}
	return api.OK
}

// clearAll clears all that is set, in mixed order.
func (b *both) clearAll(t *testing.T, s *steps) {
	t.Helper()
	for i, m := range b.models {
		b.doClearAll(t, i, mixed(s, m.slots())...)
	}
}

// P9.1, P9.2, P9.3: like the model, by several tables over one pool, charged to one factory and to several, in mixed order, with much memory and quota and with little; cleared, what is charged is as it was.
func TestLikeTheModel(t *testing.T) {
	seen := map[api.Errno]int{}
	for seed := range 24 {
		s := steps(seed)
		b := made(t, 65536, 65536)
		factories := 1 + seed%3
		for k := 1; k < factories; k++ {
			b.doCarve(t, 0, []int{3000, 30000}[s.next(2)])
		}
		for range 1 + seed%5 {
			b.doTask(t, s.next(factories))
		}
		if seed%4 == 3 {
			// Little memory is left, so that there is soon no block.
			for b.p.Blocks().Left() > 5*1024 {
				b.doTake(t, 0)
			}
		}
		for range 600 {
			seen[b.step(t, &s, factories)]++
			b.same(t)
		}
		b.clearAll(t, &s)
		b.same(t)
		if l := b.p.Used(api.Leaf); len(l) != len(leavesOfOthers(b.others)) {
			t.Fatalf("leaves are left: %v", l)
		}
	}
	for _, e := range []api.Errno{api.OK, api.ErrArg, api.ErrRange, api.ErrMemory, api.ErrQuota, api.ErrNone} {
		if seen[e] < 50 {
			t.Errorf("the error %d was told %d times only", e, seen[e])
		}
	}
}

func leavesOfOthers(l []other) []other {
	return slices.DeleteFunc(slices.Clone(l), func(o other) bool { return o.class != api.Leaf })
}

// P9.3: when all are cleared, in whichever order, all that can be told of the pool is as it was, again and again.
func TestAllCleared(t *testing.T) {
	var s steps = 93
	b := made(t, 65536, 65536)
	b.doCarve(t, 0, 9000)
	for i := range 4 {
		b.doTask(t, i%2)
	}
	was := stateOf(b.p)
	for range 30 {
		for range 150 {
			b.doSet(t, s.next(4), s.next(256), uint64(s.next(9)+1), uint64(s.next(9)))
		}
		b.same(t)
		b.clearAll(t, &s)
		b.same(t)
		stays(t, b.p, was)
	}
}

// P9.1, P9.3: like the model, by all rows of five steps, each of which sets or clears one of four slots: both ends of one leaf, the first of the next one, and the last one.
func TestAllShortRows(t *testing.T) {
	slots := []int{0, 15, 16, 255}
	for row := range 1 << 15 {
		// There is quota for two leaves.
		b := made(t, 65536, 128+512)
		b.doTask(t, 0)
		for i := range 5 {
			step := row >> (3 * i) % 8
			if slot := slots[step/2]; step%2 == 0 {
				b.doSet(t, 0, slot, uint64(i)+1, uint64(row))
			} else {
				b.doClear(t, 0, slot)
			}
		}
		b.sameWords(t, 0)
		if got, want := b.tables[0].Slots(), b.models[0].slots(); !slices.Equal(got, want) {
			t.Fatalf("the row %d: Slots() = %v, not %v", row, got, want)
		}
		if got, want := b.tables[0].Leaves(), b.models[0].starts(); !slices.Equal(got, want) {
			t.Fatalf("the row %d: Leaves() = %v, not %v", row, got, want)
		}
		if got, want := b.p.Quota().Use(0), b.twin.Quota().Use(0); got != want {
			t.Fatalf("the row %d: Use(0) = %d, not %d", row, got, want)
		}
	}
}

// P9.2: like the model, of slots in mixed order, some of which there aren't, of tables with few leaves and with many.
func TestNeedLikeTheModel(t *testing.T) {
	var s steps = 29
	for range 200 {
		b := one(t)
		for range s.next(25) {
			b.doSetAll(t, 0, s.next(256))
		}
		for range 50 {
			var l []int
			for range s.next(20) {
				if s.next(4) == 0 {
					l = append(l, s.of(noSlots))
				} else {
					l = append(l, s.next(256))
				}
			}
			needs(t, b.tables[0], b.models[0].need(l), l...)
		}
	}
}

// P9.1, P9.2: numbers of slots around those that there are, and around all powers of two.
func TestNumbersOfSlots(t *testing.T) {
	b := one(t)
	b.doSetAll(t, 0, edges...)
	numbers := []int{math.MinInt, math.MaxInt}
	for k := range 63 {
		for d := -2; d <= 2; d++ {
			numbers = append(numbers, 1<<k+d, -1<<k+d)
		}
	}
	for _, slot := range numbers {
		a, w := b.tables[0].Get(slot)
		if got, want := (entry{a, w}), b.models[0].entries[slot]; got != want {
			t.Fatalf("Get(%d) = %v, not %v", slot, got, want)
		}
		needs(t, b.tables[0], b.models[0].need([]int{slot}), slot)
		b.doClear(t, 0, slot)
		b.doSet(t, 0, slot, 8, 9)
		b.doClear(t, 0, slot)
	}
	b.same(t)
}
