package table_test

import (
	"math"
	"slices"
	"testing"

	"quartermaster/api"
	"quartermaster/pool"
	"quartermaster/table"
)

// uses fails unless these are the uses of the factories 0, 1, ..
func uses(t *testing.T, p *pool.Pool, l ...int) {
	t.Helper()
	for id, want := range l {
		if got := p.Quota().Use(id); got != want {
			t.Fatalf("Use(%d) = %d, not %d", id, got, want)
		}
	}
}

// P9.1, P9.3: a leaf is got with its first entry, and charged once; it goes with its last one, whichever that is.
func TestALeafComesAndGoes(t *testing.T) {
	b := one(t)
	for n := range 16 {
		for last := range 16 {
			for k := range 16 {
				b.doSetAll(t, 0, 16*n+k)
				uses(t, b.p, 128+256)
			}
			for k := range 16 {
				if k != last {
					b.doClearAll(t, 0, 16*n+k)
				}
			}
			uses(t, b.p, 128+256)
			has(t, b.tables[0], 16*n+last)
			b.same(t)
			b.doClearAll(t, 0, 16*n+last)
			uses(t, b.p, 128)
			has(t, b.tables[0])
			begins(t, b.tables[0])
			if l := b.p.Used(api.Leaf); len(l) != 0 {
				t.Fatalf("Used(Leaf) = %v", l)
			}
			b.same(t)
		}
	}
}

// P9.1, P9.3: the first and the last entry of a leaf, by themselves and together, of the first, of a middle and of the last leaf, in each order.
func TestFirstAndLastEntryOfALeaf(t *testing.T) {
	for _, n := range []int{0, 1, 7, 8, 15} {
		first, last := 16*n, 16*n+15
		for _, set := range [][]int{{first, last}, {last, first}} {
			for _, clear := range [][]int{{first, last}, {last, first}} {
				b := one(t)
				b.doSetAll(t, 0, set[0])
				begins(t, b.tables[0], 1024+64)
				b.doSetAll(t, 0, set[1])
				begins(t, b.tables[0], 1024+64)
				b.same(t)
				b.doClearAll(t, 0, clear[0])
				has(t, b.tables[0], clear[1])
				begins(t, b.tables[0], 1024+64)
				b.same(t)
				b.doClearAll(t, 0, clear[1])
				begins(t, b.tables[0])
				b.same(t)
			}
		}
	}
}

// P9.3: a leaf that comes again is empty but for the new entry, also where its place was used by others in between.
func TestALeafComesAgain(t *testing.T) {
	b := one(t)
	for range 3 {
		b.doSetAll(t, 0, every()[:16]...)
		b.doSetAll(t, 0, 255)
		b.doClearAll(t, 0, every()[:16]...)
		is(t, "Fill", b.p.Arena().Fill(1024+64, 256, 0xff), api.OK)
		b.doSetAll(t, 0, 5)
		begins(t, b.tables[0], 1024+64, 1024+64+256)
		has(t, b.tables[0], 5, 255)
		b.same(t)
		b.doClearAll(t, 0, 5, 255)
		b.same(t)
	}
}

// P9.1, P9.3: all 256 entries are set and cleared, in several orders; all is charged for 16 leaves, and then it is as it was.
func TestAllEntries(t *testing.T) {
	var s steps = 256
	b := one(t)
	was := stateOf(b.p)
	falling := every()
	slices.Reverse(falling)
	for _, set := range [][]int{every(), falling, mixed(&s, every())} {
		for _, clear := range [][]int{every(), falling, mixed(&s, every())} {
			b.doSetAll(t, 0, set...)
			has(t, b.tables[0], every()...)
			uses(t, b.p, 128+16*256)
			needs(t, b.tables[0], 0, every()...)
			b.same(t)
			for i, slot := range clear {
				b.doClearAll(t, 0, slot)
				if i%20 == 0 {
					b.same(t)
				}
			}
			has(t, b.tables[0])
			begins(t, b.tables[0])
			b.same(t)
			stays(t, b.p, was)
		}
	}
}

// P9.1: to set anew charges nothing, and gets nothing.
func TestSetAnew(t *testing.T) {
	b := made(t, 65536, 128+256)
	b.doTask(t, 0)
	for i := range 100 {
		is(t, "Set", b.doSet(t, 0, 77, uint64(i)+1, uint64(100-i)), api.OK)
		gives(t, b.tables[0], 77, uint64(i)+1, uint64(100-i))
		uses(t, b.p, 128+256)
		begins(t, b.tables[0], 1024+64)
	}
	b.same(t)
}

// P9.1: a leaf that would be more than the factory's limit is ErrQuota, and nothing turns; what has its leaf is set all the same.
func TestSetWithoutQuota(t *testing.T) {
	b := made(t, 65536, 128+2*256+255)
	b.doTask(t, 0)
	b.doSetAll(t, 0, 0, 255)
	for slot := 16; slot < 240; slot++ {
		refuses(t, b.p, b.tables[0], slot, 1, api.ErrQuota)
		is(t, "Set", b.doSet(t, 0, slot, 1, 1), api.ErrQuota)
	}
	b.doSetAll(t, 0, every()[:16]...)
	b.doSetAll(t, 0, every()[240:]...)
	b.same(t)
	b.doClearAll(t, 0, every()[240:]...)
	b.doSetAll(t, 0, 100)
	refuses(t, b.p, b.tables[0], 255, 1, api.ErrQuota)
	b.same(t)
	is(t, "Refund", b.p.Quota().Refund(0, 1), api.OK)
	is(t, "Refund", b.twin.Quota().Refund(0, 1), api.OK)
	b.doSetAll(t, 0, 255)
	b.same(t)
}

// P9.1: where there is no block, a new leaf is ErrMemory, and nothing turns, nor is anything charged; what has its leaf is set all the same, and places of a slab that has some do.
func TestSetWithoutMemory(t *testing.T) {
	b := one(t)
	b.doSetAll(t, 0, 0)
	b.doTakeAll(t)
	b.doSetAll(t, 0, 16, 32)
	for slot := 48; slot < 256; slot++ {
		refuses(t, b.p, b.tables[0], slot, 1, api.ErrMemory)
		is(t, "Set", b.doSet(t, 0, slot, 1, 1), api.ErrMemory)
	}
	uses(t, b.p, 128+3*256)
	b.doSetAll(t, 0, every()[:48]...)
	b.same(t)
	b.doClearAll(t, 0, every()[16:32]...)
	b.doSetAll(t, 0, 255)
	refuses(t, b.p, b.tables[0], 16, 1, api.ErrMemory)
	b.same(t)
	b.doGive(t, 8192)
	b.doSetAll(t, 0, 16, 48, 64)
	refuses(t, b.p, b.tables[0], 80, 1, api.ErrMemory)
	b.same(t)
}

// P9.1: of a factory that isn't there, or isn't there any more, a new leaf is ErrNone; what has its leaf is set all the same.
func TestSetForNoSuchFactory(t *testing.T) {
	b := one(t)
	b.doSetAll(t, 0, 20)
	is(t, "Close", b.p.Quota().Close(b.doCarve(t, 0, 1000)), api.OK)
	is(t, "Close", b.twin.Quota().Close(1), api.OK)
	for _, factory := range []int{math.MinInt, -1 << 32, -1, 1, 2, 31, 32, 1 << 32, math.MaxInt} {
		x := table.At(b.p, factory, 64)
		for _, slot := range []int{0, 15, 32, 255} {
			refuses(t, b.p, x, slot, 5, api.ErrNone)
		}
		is(t, "Set", x.Set(31, uint64(factory)|1, 5), api.OK)
		gives(t, b.tables[0], 31, uint64(factory)|1, 5)
		is(t, "Clear", x.Clear(31), api.OK)
		b.same(t)
	}
}

// P9.1: where errors of a Set are at hand together, the one that is named first is told.
func TestSetTellsTheFirstError(t *testing.T) {
	b := made(t, 65536, 60000)
	b.doCarve(t, 0, 255)
	b.doTask(t, 0)
	b.doTakeAll(t)
	for i, c := range []struct {
		factory, slot int
		a             uint64
		e             api.Errno
	}{
		{0, -1, 0, api.ErrRange},          // before ErrArg
		{0, 256, 1, api.ErrRange},         // before ErrMemory
		{1, -16, 1, api.ErrRange},         // before ErrQuota, ErrMemory
		{9, 256, 1, api.ErrRange},         // before ErrNone, ErrMemory
		{9, math.MinInt, 0, api.ErrRange}, // before all
		{1, math.MaxInt, 0, api.ErrRange}, // before all
		{0, 5, 0, api.ErrArg},             // before ErrMemory
		{1, 255, 0, api.ErrArg},           // before ErrQuota, ErrMemory
		{9, 0, 0, api.ErrArg},             // before ErrNone, ErrMemory
		{9, 0, 1, api.ErrNone},            // before ErrMemory
		{-1, 16, 1, api.ErrNone},          // before ErrMemory
		{1, 0, 1, api.ErrQuota},           // before ErrMemory
		{1, 255, 1, api.ErrQuota},         // before ErrMemory
		{0, 15, math.MaxUint64, api.ErrMemory},
	} {
		was := stateOf(b.p)
		if e := table.At(b.p, c.factory, 64).Set(c.slot, c.a, 1); e != c.e {
			t.Errorf("case %d: %d, not %d", i, e, c.e)
		}
		stays(t, b.p, was)
	}
	b.same(t)
}

// P9.1: where errors of a Clear are at hand together, the one that is named first is told; a slot that there isn't is never an empty one.
func TestClearTellsTheFirstError(t *testing.T) {
	b := one(t)
	b.doSetAll(t, 0, 0, 255)
	for _, slot := range noSlots {
		keeps(t, b.p, b.tables[0], slot, api.ErrRange)
		keeps(t, b.p, table.At(b.p, 9, 64), slot, api.ErrRange)
	}
	keeps(t, b.p, table.At(b.p, 9, 64), 1, api.ErrNone)
	keeps(t, b.p, table.At(b.p, 9, 64), 100, api.ErrNone)
	b.same(t)
}

// P9.1, P9.3: a table's leaves are charged to its factory, and to no other one, and refunded to that.
func TestChargedToItsFactory(t *testing.T) {
	b := made(t, 65536, 65536)
	b.doCarve(t, 0, 10000)
	b.doCarve(t, 1, 5000)
	for factory := range 3 {
		b.doTask(t, factory)
	}
	uses(t, b.p, 128+10000, 128+5000, 128)
	b.doSetAll(t, 0, 0, 1, 100)
	b.doSetAll(t, 1, 0)
	b.doSetAll(t, 2, 0, 16, 32, 48)
	uses(t, b.p, 128+512+10000, 128+256+5000, 128+1024)
	b.same(t)
	b.doClearAll(t, 2, 16, 48)
	b.doClearAll(t, 0, 1, 0)
	uses(t, b.p, 128+256+10000, 128+256+5000, 128+512)
	b.same(t)
	b.doClearAll(t, 2, 0, 32)
	b.doClearAll(t, 0, 100)
	b.doClearAll(t, 1, 0)
	uses(t, b.p, 128+10000, 128+5000, 128)
	b.same(t)
}

// P9.1: one factory without quota is no hindrance to another one's tables.
func TestQuotaOfEachFactory(t *testing.T) {
	b := made(t, 65536, 65536)
	b.doCarve(t, 0, 128+256)
	b.doCarve(t, 0, 128+512)
	b.doTask(t, 1)
	b.doTask(t, 2)
	b.doSetAll(t, 0, 3)
	refuses(t, b.p, b.tables[0], 30, 1, api.ErrQuota)
	b.doSetAll(t, 1, 3, 30)
	refuses(t, b.p, b.tables[1], 50, 1, api.ErrQuota)
	b.doClearAll(t, 1, 3)
	refuses(t, b.p, b.tables[0], 30, 1, api.ErrQuota)
	b.doSetAll(t, 1, 50)
	b.same(t)
}

// P9.1: the words of a table stand in the arena as the document says, the lowest byte first, and nothing else turns there.
func TestBytesInTheArena(t *testing.T) {
	b := one(t)
	for _, class := range classes {
		b.doOther(t, 0, class)
	}
	is(t, "Set", b.doSet(t, 0, 255, 0x0102030405060708, 0x1112131415161718), api.OK)
	b.same(t)
	leaf := b.tables[0].Leaves()[0]
	want := make([]byte, 128)
	want[120], want[121] = byte(leaf), byte(leaf>>8)
	if got, _ := b.p.Arena().Read(64, 128); !slices.Equal(got, want) {
		t.Errorf("the table's bytes are %v", got)
	}
	want = make([]byte, 256)
	copy(want[240:], []byte{8, 7, 6, 5, 4, 3, 2, 1, 0x18, 0x17, 0x16, 0x15, 0x14, 0x13, 0x12, 0x11})
	if got, _ := b.p.Arena().Read(leaf, 256); !slices.Equal(got, want) {
		t.Errorf("the leaf's bytes are %v", got)
	}
	b.doSetAll(t, 0, 240)
	b.doClearAll(t, 0, 255)
	holds(t, b.p, leaf+240, 0)
	holds(t, b.p, leaf+248, 0)
	b.same(t)
	b.doClearAll(t, 0, 240)
	holds(t, b.p, 64+120, 0)
	b.same(t)
}

// Rule 5: what is stored to the arena counts: an entry is what stands there, and is empty if its first word is 0.
func TestWhatTheArenaHasCounts(t *testing.T) {
	b := one(t)
	b.doSetAll(t, 0, 33, 47)
	x, leaf := b.tables[0], b.tables[0].Leaves()[0]
	is(t, "Store", b.p.Arena().Store(leaf+16, 0, 9), api.OK)
	gives(t, x, 33, 0, 0)
	has(t, x, 47)
	is(t, "Clear", x.Clear(33), api.ErrNone)
	is(t, "Store", b.p.Arena().Store(leaf+2*16, 5, 0), api.OK)
	gives(t, x, 34, 5, 0)
	has(t, x, 34, 47)
	is(t, "Clear", x.Clear(47), api.OK)
	begins(t, x, leaf)
	is(t, "Clear", x.Clear(34), api.OK)
	begins(t, x)
	uses(t, b.p, 128)
}

// P9.3: if the pool refuses to take a leaf back, for the factory isn't there, or was refunded by others, nothing turns, and the pool's error is told; an entry that isn't the last one is cleared all the same.
func TestClearOfALeafThatIsNotTaken(t *testing.T) {
	b := one(t)
	b.doCarve(t, 0, 1000)
	b.doSetAll(t, 0, 64, 70)
	lost, poor := table.At(b.p, 9, 64), table.At(b.p, 1, 64)
	is(t, "Clear", lost.Clear(64), api.OK)
	keeps(t, b.p, lost, 70, api.ErrNone)
	keeps(t, b.p, poor, 70, api.ErrArg)
	gives(t, b.tables[0], 70, 71, 70<<32)
	is(t, "Refund", b.p.Quota().Refund(0, 129), api.OK)
	keeps(t, b.p, b.tables[0], 70, api.ErrArg)
	is(t, "Charge", b.p.Quota().Charge(0, 129), api.OK)
	is(t, "Clear", b.tables[0].Clear(70), api.OK)
	begins(t, b.tables[0])
	uses(t, b.p, 128+1000)
}

// Rule 5: when its place is put back, no table stands there any more, and nothing of what others have there is turned, until a place of the class Task begins there again.
func TestWhenItsPlaceIsPutBack(t *testing.T) {
	b := one(t)
	x := b.tables[0]
	b.doSetAll(t, 0, 5)
	b.doClearAll(t, 0, 5)
	is(t, "Put", b.p.Put(0, api.Task, 64), api.OK)
	for i := range 3 {
		if i == 1 {
			at, e := b.p.Get(0, api.Leaf)
			if at != 64 || e != api.OK {
				t.Fatalf("Get = %d, %d", at, e)
			}
			is(t, "Fill", b.p.Arena().Fill(64, 256, 0xa5), api.OK)
		}
		refuses(t, b.p, x, 5, 1, api.ErrArg)
		keeps(t, b.p, x, 5, api.ErrArg)
		gives(t, x, 5, 0, 0)
		has(t, x)
		begins(t, x)
		needs(t, x, 0, every()...)
	}
	is(t, "Put", b.p.Put(0, api.Leaf, 64), api.OK)
	if at, e := b.p.Get(0, api.Task); at != 64 || e != api.OK {
		t.Fatalf("Get = %d, %d", at, e)
	}
	is(t, "Set", x.Set(5, 1, 2), api.OK)
	has(t, table.At(b.p, 0, 64), 5)
}

// P9.1: a table near the end of a greater arena, with leaves behind it up to the last place.
func TestGreatAddresses(t *testing.T) {
	b := made(t, 1<<22, 1<<22)
	for k := 11; k > 1; k-- {
		if !b.doTake(t, k) {
			t.Fatalf("no block of the order %d", k)
		}
	}
	b.doTask(t, 0)
	if at := b.models[0].at; at != 1<<22-4096+64 {
		t.Fatalf("the task is at %d", at)
	}
	b.doSetAll(t, 0, 0, 100, 200, 255, 17, 33, 50, 70, 90)
	refuses(t, b.p, b.tables[0], 120, 1, api.ErrMemory)
	b.same(t)
	b.doClearAll(t, 0, 70, 90, 0)
	b.doSetAll(t, 0, 120, 71)
	b.same(t)
}
