package table_test

import (
	"math"
	"slices"
	"testing"

	"quartermaster/api"
	"quartermaster/pool"
	"quartermaster/table"
)

// noSlots are numbers of no slot: those beside the slots, and far ones, of which a cut-off number, or what they leave by 16, would be a slot's.
var noSlots = []int{math.MinInt, math.MinInt + 1, -1 << 62, -1 << 32, -1<<32 + 5, -257, -256, -255, -17, -16, -15, -1, 256, 257, 271, 272, 511, 512, 1 << 16, 1<<16 + 3, 1 << 32, 1<<32 + 1, 1<<32 + 255, 1 << 60, 1 << 62, math.MaxInt - 1, math.MaxInt}

// edges are the first and the last slot of the first, of the second and of the last leaf, and those beside the two sides.
var edges = []int{0, 1, 15, 16, 17, 31, 32, 127, 128, 239, 240, 254, 255}

// words are numbers at the ends of whole ones, and those that would be 0 if they were cut off.
var words = []uint64{1, 2, 255, 256, 1 << 16, 1<<31 - 1, 1 << 31, 1<<32 - 1, 1 << 32, 1<<32 + 1, 1 << 56, 1<<63 - 1, 1 << 63, math.MaxUint64 - 1, math.MaxUint64}

// every is all slots, rising.
func every() []int {
	l := make([]int, 256)
	for i := range l {
		l[i] = i
	}
	return l
}

// gives fails unless an entry's words are these.
func gives(t *testing.T, x *table.Table, slot int, a, b uint64) {
	t.Helper()
	if gotA, gotB := x.Get(slot); gotA != a || gotB != b {
		t.Fatalf("Get(%d) = %d, %d, not %d, %d", slot, gotA, gotB, a, b)
	}
}

// begins fails unless leaves begin there.
func begins(t *testing.T, x *table.Table, want ...int) {
	t.Helper()
	if got := x.Leaves(); !slices.Equal(got, want) {
		t.Fatalf("Leaves() = %v, not %v", got, want)
	}
}

// has fails unless these slots aren't empty.
func has(t *testing.T, x *table.Table, want ...int) {
	t.Helper()
	if got := x.Slots(); !slices.Equal(got, want) {
		t.Fatalf("Slots() = %v, not %v", got, want)
	}
}

// needs fails unless so many leaves would be got.
func needs(t *testing.T, x *table.Table, want int, l ...int) {
	t.Helper()
	if got := x.Need(l...); got != want {
		t.Fatalf("Need(%v) = %d, not %d", l, got, want)
	}
}

// refuses fails unless nothing is set, for that error, and all is as it was.
func refuses(t *testing.T, p *pool.Pool, x *table.Table, slot int, a uint64, want api.Errno) {
	t.Helper()
	was := stateOf(p)
	if e := x.Set(slot, a, 7); e != want {
		t.Fatalf("Set(%d, %d, 7) = %d, not %d", slot, a, e, want)
	}
	stays(t, p, was)
}

// keeps fails unless nothing is cleared, for that error, and all is as it was.
func keeps(t *testing.T, p *pool.Pool, x *table.Table, slot int, want api.Errno) {
	t.Helper()
	was := stateOf(p)
	if e := x.Clear(slot); e != want {
		t.Fatalf("Clear(%d) = %d, not %d", slot, e, want)
	}
	stays(t, p, was)
}

// The chapter's examples.
func TestExamples(t *testing.T) {
	b := one(t)
	is(t, "Set", b.doSet(t, 0, 17, 5, 6), api.OK)
	begins(t, b.tables[0], 1024+64)
	holds(t, b.p, 64+8, 1024+64)
	gives(t, b.tables[0], 17, 5, 6)
	b.same(t)
}

// P9.1: a table of a place at first has no entry, and no leaf.
func TestAt(t *testing.T) {
	b := made(t, 65536, 65536)
	for range 20 {
		b.doTask(t, 0)
	}
	b.same(t)
	for _, x := range b.tables {
		has(t, x)
		begins(t, x)
		needs(t, x, 16, every()...)
	}
}

// P9.1: where no used place of the class Task begins there is no table: beside a used one, within it, behind it, in a head, at one of another class, beyond the arena, where one was put back, or is of another pool.
func TestAtOfNoTable(t *testing.T) {
	p, q := pool.New(65536, 65536), pool.New(65536, 65536)
	var tasks []int
	for range 4 {
		at, e := p.Get(0, api.Task)
		is(t, "Get", e, api.OK)
		tasks = append(tasks, at)
	}
	is(t, "Put", p.Put(0, api.Task, tasks[2]), api.OK)
	none := []int{tasks[2], math.MinInt, math.MinInt + 64, -1024 + 64, -64, -1, 0, 1, 8, 16, 63, 1024, 1024 + 64, 65536, 65536 + 64, 1<<32 + 64, 1 << 62, math.MaxInt - 7, math.MaxInt}
	for _, at := range []int{tasks[0], tasks[1], tasks[3]} {
		none = append(none, at-8, at-1, at+1, at+8, at+16, at+64, at+127, at+65536, at+1<<32, at-1<<32)
		if table.At(p, 0, at) == nil {
			t.Errorf("At(p, 0, %d) is nil", at)
		}
		if table.At(q, 0, at) != nil {
			t.Errorf("At(q, 0, %d) isn't nil", at)
		}
	}
	for _, class := range classes {
		if class == api.Task {
			continue
		}
		at, e := p.Get(0, class)
		is(t, "Get", e, api.OK)
		none = append(none, at)
	}
	for _, at := range none {
		for _, factory := range []int{0, 1, -1, math.MaxInt} {
			if table.At(p, factory, at) != nil {
				t.Errorf("At(p, %d, %d) isn't nil", factory, at)
			}
			if table.At(nil, factory, at) != nil {
				t.Errorf("At(nil, %d, %d) isn't nil", factory, at)
			}
		}
	}
	if table.At(nil, 0, tasks[0]) != nil {
		t.Error("of a nil pool it isn't nil")
	}
}

// P9.1: At of a table turns nothing, and doesn't ask whether there is the factory; it has what stands there already.
func TestAtOfWhatStandsThere(t *testing.T) {
	b := one(t)
	b.doSetAll(t, 0, 3, 40, 255)
	was := stateOf(b.p)
	for _, factory := range []int{0, 1, -1, 99, math.MinInt, math.MaxInt} {
		x := table.At(b.p, factory, 64)
		if x == nil {
			t.Fatalf("At(p, %d, 64) is nil", factory)
		}
		stays(t, b.p, was)
		has(t, x, 3, 40, 255)
		begins(t, x, b.tables[0].Leaves()...)
		gives(t, x, 40, 41, 40<<32)
		needs(t, x, 1, 4, 41, 254, 99)
	}
}

// P9.1, P9.2: two tables of one place are one: what is done to the one is told by the other one.
func TestTwoOfOnePlace(t *testing.T) {
	b := one(t)
	second := table.At(b.p, 0, 64)
	b.doSetAll(t, 0, 9, 10)
	has(t, second, 9, 10)
	is(t, "Clear", second.Clear(9), api.OK)
	has(t, b.tables[0], 10)
	is(t, "Set", second.Set(11, 4, 5), api.OK)
	gives(t, b.tables[0], 11, 4, 5)
	begins(t, b.tables[0], second.Leaves()...)
	is(t, "Clear", b.tables[0].Clear(11), api.OK)
	is(t, "Clear", b.tables[0].Clear(10), api.OK)
	begins(t, second)
	if n := b.p.Quota().Use(0); n != 128 {
		t.Errorf("Use(0) = %d", n)
	}
}

// P9.1: each slot by itself is set, got, set anew and cleared; no other one turns.
func TestEachSlot(t *testing.T) {
	b := one(t)
	for slot := range 256 {
		is(t, "Clear", b.doClear(t, 0, slot), api.ErrNone)
		is(t, "Set", b.doSet(t, 0, slot, uint64(slot)+1, 9), api.OK)
		gives(t, b.tables[0], slot, uint64(slot)+1, 9)
		b.same(t)
		has(t, b.tables[0], slot)
		is(t, "Set", b.doSet(t, 0, slot, 3, uint64(slot)), api.OK)
		gives(t, b.tables[0], slot, 3, uint64(slot))
		b.same(t)
		is(t, "Clear", b.doClear(t, 0, slot), api.OK)
		gives(t, b.tables[0], slot, 0, 0)
		b.same(t)
		is(t, "Clear", b.doClear(t, 0, slot), api.ErrNone)
		has(t, b.tables[0])
		begins(t, b.tables[0])
	}
}

// P9.1: words of all sizes are told whole; a second word of 0 is one too, and leaves nothing of what stood there.
func TestWordsAreToldWhole(t *testing.T) {
	b := one(t)
	for _, slot := range []int{0, 15, 16, 255} {
		for _, x := range words {
			for _, y := range append([]uint64{0}, words...) {
				is(t, "Set", b.doSet(t, 0, slot, x, y), api.OK)
				gives(t, b.tables[0], slot, x, y)
				b.sameWords(t, 0)
			}
		}
		b.same(t)
	}
}

// P9.1: of no such slot there is nothing to set, to get and to clear, of an empty table and of a full one.
func TestNoSuchSlot(t *testing.T) {
	b := one(t)
	for range 2 {
		for _, slot := range noSlots {
			refuses(t, b.p, b.tables[0], slot, 5, api.ErrRange)
			refuses(t, b.p, b.tables[0], slot, 0, api.ErrRange)
			keeps(t, b.p, b.tables[0], slot, api.ErrRange)
			gives(t, b.tables[0], slot, 0, 0)
			needs(t, b.tables[0], 0, slot)
		}
		b.same(t)
		b.doSetAll(t, 0, every()...)
	}
}

// P9.1: a first word of 0 is ErrArg, of an empty slot and of one that is set, whose words stay.
func TestSetOf0(t *testing.T) {
	b := one(t)
	for _, slot := range edges {
		refuses(t, b.p, b.tables[0], slot, 0, api.ErrArg)
	}
	b.doSetAll(t, 0, edges...)
	for slot := range 256 {
		refuses(t, b.p, b.tables[0], slot, 0, api.ErrArg)
	}
	b.same(t)
}

// P9.1: an empty slot is cleared to ErrNone, with its leaf and without.
func TestClearOfAnEmptyOne(t *testing.T) {
	b := one(t)
	for slot := range 256 {
		keeps(t, b.p, b.tables[0], slot, api.ErrNone)
	}
	b.doSetAll(t, 0, 0, 31, 200)
	for slot := range 256 {
		if slot != 0 && slot != 31 && slot != 200 {
			keeps(t, b.p, b.tables[0], slot, api.ErrNone)
		}
	}
	b.same(t)
}

// P9.2: Need tells leaves, not slots: of none, of one leaf, of all, of those that come twice, of those that there aren't, and of leaves that are there.
func TestNeed(t *testing.T) {
	b := one(t)
	x := b.tables[0]
	needs(t, x, 0)
	needs(t, x, 0, []int{}...)
	needs(t, x, 1, 0)
	needs(t, x, 1, 255)
	needs(t, x, 1, 0, 1, 2, 15)
	needs(t, x, 2, 15, 16)
	needs(t, x, 2, 16, 15, 16, 15, 31, 0)
	needs(t, x, 16, every()...)
	needs(t, x, 16, slices.Concat(every(), every(), noSlots)...)
	needs(t, x, 0, noSlots...)
	needs(t, x, 1, append(slices.Clone(noSlots), 100)...)
	needs(t, x, 1, append([]int{100}, noSlots...)...)
	b.doSetAll(t, 0, 20, 100)
	needs(t, x, 0, 16, 31, 96, 111, 20, 100)
	needs(t, x, 2, 15, 16, 31, 32, 96, 111)
	needs(t, x, 14, every()...)
	b.doSetAll(t, 0, every()...)
	needs(t, x, 0, every()...)
	needs(t, x, 0, append(every(), noSlots...)...)
	b.doClearAll(t, 0, every()[240:]...)
	needs(t, x, 1, every()...)
	b.same(t)
}

// P9.2: Need goes by leaves alone, and not by what may be got.
func TestNeedWithoutQuotaAndMemory(t *testing.T) {
	b := made(t, 65536, 128+256)
	b.doTask(t, 0)
	needs(t, b.tables[0], 16, every()...)
	b.doSetAll(t, 0, 0)
	needs(t, b.tables[0], 15, every()...)
	b.doTakeAll(t)
	needs(t, b.tables[0], 15, every()...)
	lost := table.At(b.p, 77, 64)
	needs(t, lost, 15, every()...)
	b.same(t)
}

// P9.2: so many leaves as Need tells are got when all the slots are set, and so much is charged.
func TestNeedIsWhatIsGot(t *testing.T) {
	var s steps = 92
	for range 300 {
		b := one(t)
		for range s.next(30) {
			b.doSetAll(t, 0, s.next(256))
		}
		var l, there []int
		for range s.next(12) {
			if l = append(l, s.next(300)-20); isSlot(l[len(l)-1]) {
				there = append(there, l[len(l)-1])
			}
		}
		n, leaves, use := b.tables[0].Need(l...), len(b.tables[0].Leaves()), b.p.Quota().Use(0)
		b.doSetAll(t, 0, there...)
		if got := len(b.tables[0].Leaves()) - leaves; got != n {
			t.Fatalf("%d leaves are got, and Need(%v) = %d", got, l, n)
		}
		if got := b.p.Quota().Use(0) - use; got != 256*n {
			t.Fatalf("%d more are charged, and Need(%v) = %d", got, l, n)
		}
		needs(t, b.tables[0], 0, l...)
	}
}

// P9.2: slots rise, however they were set; leaves are told by their numbers, wherever they begin.
func TestOrder(t *testing.T) {
	b := one(t)
	b.doSetAll(t, 0, 255, 16, 130, 0, 31, 1, 129)
	has(t, b.tables[0], 0, 1, 16, 31, 129, 130, 255)
	begins(t, b.tables[0], 2048+64, 1024+64+256, 1024+64+512, 1024+64)
	b.same(t)
	b.doClearAll(t, 0, 31, 16)
	begins(t, b.tables[0], 2048+64, 1024+64+512, 1024+64)
	b.doSetAll(t, 0, 40)
	begins(t, b.tables[0], 2048+64, 1024+64+256, 1024+64+512, 1024+64)
	b.same(t)
}

// P9.2: asking turns nothing, however often.
func TestAskingTurnsNothing(t *testing.T) {
	b := one(t)
	b.doSetAll(t, 0, edges...)
	was := stateOf(b.p)
	for range 5 {
		b.tables[0].Slots()
		b.tables[0].Leaves()
		b.tables[0].Need(every()...)
		b.tables[0].Get(7)
		b.tables[0].Get(15)
		b.tables[0].Get(-1)
		stays(t, b.p, was)
	}
}

// P9.1, P9.2: a nil table answers ErrArg, 0, none, whatever it is asked, or given.
func TestNilTable(t *testing.T) {
	var none *table.Table
	for _, x := range []*table.Table{none, table.At(nil, 0, 64), table.At(pool.New(65536, 65536), 0, 64)} {
		for _, slot := range slices.Concat(edges, noSlots) {
			is(t, "Set", x.Set(slot, 5, 6), api.ErrArg)
			is(t, "Set", x.Set(slot, 0, 6), api.ErrArg)
			is(t, "Clear", x.Clear(slot), api.ErrArg)
			gives(t, x, slot, 0, 0)
			needs(t, x, 0, slot)
		}
		needs(t, x, 0)
		needs(t, x, 0, every()...)
		has(t, x)
		begins(t, x)
	}
}

// spoil sets all that a list has, and its spare room.
func spoil(l []int) {
	l = l[:cap(l)]
	for i := range l {
		l[i] = -77
	}
}

// P9.2, rule 4: lists that were answered are whoever's has them: what is done to them turns nothing in the table, and nothing in another answer.
func TestListsAreNewMemory(t *testing.T) {
	var s steps = 4
	b := one(t)
	var answers, copies [][]int
	for range 60 {
		b.doSetAll(t, 0, s.next(256))
		for _, l := range [][]int{b.tables[0].Slots(), b.tables[0].Leaves(), b.tables[0].Slots(), b.tables[0].Leaves()} {
			answers, copies = append(answers, l), append(copies, slices.Clone(l))
		}
	}
	for i, l := range answers {
		if !slices.Equal(l, copies[i]) {
			t.Fatalf("the answer %d is %v now, not %v", i, l, copies[i])
		}
	}
	for i, l := range answers {
		spoil(l)
		if i+1 < len(answers) && !slices.Equal(answers[i+1], copies[i+1]) {
			t.Fatalf("the answer %d is %v, not %v, when the one ahead of it is changed", i+1, answers[i+1], copies[i+1])
		}
	}
	b.same(t)
}

// P9.2, rule 4: what is handed in isn't changed, nor its spare room, and isn't kept.
func TestWhatIsHandedInStays(t *testing.T) {
	b := one(t)
	b.doSetAll(t, 0, 200)
	room := []int{40, 3, 200, -1, 256, 41, 3, 9, 9, 9}
	was := slices.Clone(room)
	needs(t, b.tables[0], 2, room[:7]...)
	if !slices.Equal(room, was) {
		t.Errorf("what was handed in is %v", room)
	}
	spoil(room)
	needs(t, b.tables[0], 2, was[:7]...)
	b.same(t)
}

// Ways: the methods of its pool, of the pool's tree and of its allocator are the table's own too; Get is the table's.
func TestMethodsOfItsPool(t *testing.T) {
	b := one(t)
	var parts interface {
		Put(factory, class, at int) api.Errno
		Has(class, at int) bool
		Used(class int) []int
		Charge(id, n int) api.Errno
		Take(order int) (int, api.Errno)
		Get(slot int) (uint64, uint64)
	} = b.tables[0]
	b.doSetAll(t, 0, 99)
	if !parts.Has(api.Task, 64) || !slices.Equal(parts.Used(api.Leaf), []int{1024 + 64}) {
		t.Errorf("Has(Task, 64) = %t, Used(Leaf) = %v", parts.Has(api.Task, 64), parts.Used(api.Leaf))
	}
	is(t, "Charge", parts.Charge(0, 100), api.OK)
	if n := b.p.Quota().Charged(0); n != 128+256+100 {
		t.Errorf("Charged(0) = %d", n)
	}
	if at, e := parts.Take(0); e != api.OK || b.p.Blocks().Order(at) != 0 {
		t.Errorf("Take(0) = %d, %d", at, e)
	}
	if a, _ := parts.Get(99); a != 100 {
		t.Errorf("Get(99) = %d", a)
	}
}
