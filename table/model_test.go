package table_test

import (
	"bytes"
	"maps"
	"reflect"
	"slices"
	"testing"

	"quartermaster/api"
	"quartermaster/pool"
	"quartermaster/table"
)

// classes are all there are.
var classes = []int{api.Factory, api.Task, api.Thread, api.Gate, api.Irq, api.Node, api.Leaf}

// entry is two words.
type entry [2]uint64

// plain is a table of the model: its entries by slots, and where its leaves begin, by their numbers.
type plain struct {
	factory, at int
	entries     map[int]entry
	leaves      map[int]int
}

func isSlot(slot int) bool { return slot >= 0 && slot <= 255 }

// many is how many entries the n-th leaf has.
func (m *plain) many(n int) int {
	k := 0
	for slot := range m.entries {
		if slot/16 == n {
			k++
		}
	}
	return k
}

func (m *plain) set(twin *pool.Pool, slot int, a, b uint64) api.Errno {
	switch {
	case !isSlot(slot):
		return api.ErrRange
	case a == 0:
		return api.ErrArg
	}
	if m.many(slot/16) == 0 {
		at, e := twin.Get(m.factory, api.Leaf)
		if e != api.OK {
			return e
		}
		m.leaves[slot/16] = at
	}
	m.entries[slot] = entry{a, b}
	return api.OK
}

func (m *plain) clear(twin *pool.Pool, slot int) api.Errno {
	if !isSlot(slot) {
		return api.ErrRange
	}
	if _, ok := m.entries[slot]; !ok {
		return api.ErrNone
	}
	if n := slot / 16; m.many(n) == 1 {
		if e := twin.Put(m.factory, api.Leaf, m.leaves[n]); e != api.OK {
			return e
		}
		delete(m.leaves, n)
	}
	delete(m.entries, slot)
	return api.OK
}

func (m *plain) slots() []int { return slices.Sorted(maps.Keys(m.entries)) }

// starts is where leaves begin, by rising numbers.
func (m *plain) starts() []int {
	var l []int
	for _, n := range slices.Sorted(maps.Keys(m.leaves)) {
		l = append(l, m.leaves[n])
	}
	return l
}

func (m *plain) need(l []int) int {
	missing := map[int]int{}
	for _, slot := range l {
		if isSlot(slot) && m.many(slot/16) == 0 {
			missing[slot/16]++
		}
	}
	return len(missing)
}

// other is memory of no table, and the byte that stands all over it.
type other struct {
	class, at int
	mark      byte
}

// both are tables over one pool, and their models over its twin: where leaves begin, and what is charged for them, is told by what is got of the twin, and put back there.
type both struct {
	p, twin *pool.Pool
	tables  []*table.Table
	models  []*plain
	others  []other
}

func made(t *testing.T, size, limit int) *both {
	t.Helper()
	b := &both{p: pool.New(size, limit), twin: pool.New(size, limit)}
	if b.p == nil || b.twin == nil {
		t.Fatalf("New(%d, %d) is nil", size, limit)
	}
	return b
}

// one is a pool with one table of its root, and its model.
func one(t *testing.T) *both {
	t.Helper()
	b := made(t, 65536, 65536)
	b.doTask(t, 0)
	return b
}

// What begins with do is done to both, and fails unless they answer the same.

func (b *both) doGet(t *testing.T, factory, class int) (int, api.Errno) {
	t.Helper()
	at, e := b.p.Get(factory, class)
	if wantAt, want := b.twin.Get(factory, class); at != wantAt || e != want {
		t.Fatalf("Get(%d, %d) = %d, %d, not %d, %d", factory, class, at, e, wantAt, want)
	}
	return at, e
}

// doTask gets memory of the class Task, and has the table that stands there charged to the same factory.
func (b *both) doTask(t *testing.T, factory int) {
	t.Helper()
	at, e := b.doGet(t, factory, api.Task)
	is(t, "Get", e, api.OK)
	b.doAt(t, factory, at)
}

func (b *both) doAt(t *testing.T, factory, at int) {
	t.Helper()
	x := table.At(b.p, factory, at)
	if x == nil {
		t.Fatalf("At(%d, %d) is nil", factory, at)
	}
	b.tables = append(b.tables, x)
	b.models = append(b.models, &plain{factory: factory, at: at, entries: map[int]entry{}, leaves: map[int]int{}})
}

// doOther gets memory of no table, and writes a byte all over it; it is false if there is none.
func (b *both) doOther(t *testing.T, factory, class int) bool {
	t.Helper()
	at, e := b.doGet(t, factory, class)
	if e != api.OK {
		return false
	}
	o := other{class, at, byte(len(b.others)%250 + 1)}
	is(t, "Fill", b.p.Arena().Fill(at, pool.Cost(class), o.mark), api.OK)
	b.others = append(b.others, o)
	return true
}

func (b *both) doCarve(t *testing.T, parent, limit int) int {
	t.Helper()
	id, e := b.p.Quota().Carve(parent, limit)
	if want, wantE := b.twin.Quota().Carve(parent, limit); id != want || e != wantE || e != api.OK {
		t.Fatalf("Carve(%d, %d) = %d, %d, not %d, %d", parent, limit, id, e, want, wantE)
	}
	return id
}

// doTake takes a block for others; it is false if there is none.
func (b *both) doTake(t *testing.T, order int) bool {
	t.Helper()
	at, e := b.p.Blocks().Take(order)
	if want, wantE := b.twin.Blocks().Take(order); at != want || e != wantE {
		t.Fatalf("a block of the order %d: %d, %d, not %d, %d", order, at, e, want, wantE)
	}
	return e == api.OK
}

func (b *both) doGive(t *testing.T, at int) {
	t.Helper()
	is(t, "Give", b.p.Blocks().Give(at), api.OK)
	is(t, "Give", b.twin.Blocks().Give(at), api.OK)
}

// doTakeAll takes all blocks that are free, for others.
func (b *both) doTakeAll(t *testing.T) {
	t.Helper()
	for b.doTake(t, 0) {
	}
}

func (b *both) doSet(t *testing.T, i, slot int, x, y uint64) api.Errno {
	t.Helper()
	e := b.tables[i].Set(slot, x, y)
	if want := b.models[i].set(b.twin, slot, x, y); e != want {
		t.Fatalf("the table %d: Set(%d, %d, %d) = %d, not %d", i, slot, x, y, e, want)
	}
	return e
}

func (b *both) doClear(t *testing.T, i, slot int) api.Errno {
	t.Helper()
	e := b.tables[i].Clear(slot)
	if want := b.models[i].clear(b.twin, slot); e != want {
		t.Fatalf("the table %d: Clear(%d) = %d, not %d", i, slot, e, want)
	}
	return e
}

// doSetAll sets slots to words that are different of each, and of each table.
func (b *both) doSetAll(t *testing.T, i int, l ...int) {
	t.Helper()
	for _, slot := range l {
		is(t, "Set", b.doSet(t, i, slot, uint64(1000*i+slot+1), uint64(5000*i+slot)<<32), api.OK)
	}
}

func (b *both) doClearAll(t *testing.T, i int, l ...int) {
	t.Helper()
	for _, slot := range l {
		is(t, "Clear", b.doClear(t, i, slot), api.OK)
	}
}

// same fails unless all that is told of the tables, of the arena's words and of the pool is what the models and the twin have.
func (b *both) same(t *testing.T) {
	t.Helper()
	for i := range b.tables {
		b.sameTable(t, i)
		b.sameWords(t, i)
	}
	b.samePool(t)
	for _, o := range b.others {
		if l, e := b.p.Arena().Read(o.at, pool.Cost(o.class)); e != api.OK || !bytes.Equal(l, bytes.Repeat([]byte{o.mark}, pool.Cost(o.class))) {
			t.Fatalf("the memory of the class %d at %d holds %v, not %d all over", o.class, o.at, l, o.mark)
		}
	}
}

func (b *both) sameTable(t *testing.T, i int) {
	t.Helper()
	x, m := b.tables[i], b.models[i]
	if got, want := x.Slots(), m.slots(); !slices.Equal(got, want) {
		t.Fatalf("the table %d: Slots() = %v, not %v", i, got, want)
	}
	if got, want := x.Leaves(), m.starts(); !slices.Equal(got, want) {
		t.Fatalf("the table %d: Leaves() = %v, not %v", i, got, want)
	}
	for slot := -17; slot < 256+17; slot++ {
		a, w := x.Get(slot)
		if got, want := (entry{a, w}), m.entries[slot]; got != want {
			t.Fatalf("the table %d: Get(%d) = %v, not %v", i, slot, got, want)
		}
		if got, want := x.Need(slot), m.need([]int{slot}); got != want {
			t.Fatalf("the table %d: Need(%d) = %d, not %d", i, slot, got, want)
		}
	}
}

// sameWords fails unless the words of a table, and of its leaves, stand in the arena as the document says.
func (b *both) sameWords(t *testing.T, i int) {
	t.Helper()
	m := b.models[i]
	for n := range 16 {
		holds(t, b.p, m.at+8*n, uint64(m.leaves[n]))
	}
	for n, leaf := range m.leaves {
		for k := range 16 {
			e := m.entries[16*n+k]
			holds(t, b.p, leaf+16*k, e[0])
			holds(t, b.p, leaf+16*k+8, e[1])
		}
	}
}

func (b *both) samePool(t *testing.T) {
	t.Helper()
	got, want := stateOf(b.p), stateOf(b.twin)
	got.bytes, want.bytes = nil, nil
	if !reflect.DeepEqual(got, want) {
		t.Fatalf("the pool is %v, not %v", got, want)
	}
}

// state is all that can be told of a pool: what is used, what is charged, which blocks are free or used, and what used memory holds.
type state struct {
	used         [8][]int
	ids, numbers []int
	free, blocks []api.Block
	bytes        []byte
}

func stateOf(p *pool.Pool) state {
	var s state
	for _, class := range classes {
		s.used[class] = p.Used(class)
		for _, at := range s.used[class] {
			b, _ := p.Arena().Read(at, pool.Cost(class))
			s.bytes = append(s.bytes, b...)
		}
	}
	q := p.Quota()
	s.ids = q.Ids()
	for _, id := range s.ids {
		s.numbers = append(s.numbers, q.Charged(id), q.Use(id), q.Limit(id), q.Parent(id))
	}
	s.free, s.blocks = p.Blocks().Free(), p.Blocks().Used()
	return s
}

// stays fails unless the pool is as it was, with all that used memory holds.
func stays(t *testing.T, p *pool.Pool, was state) {
	t.Helper()
	if now := stateOf(p); !reflect.DeepEqual(now, was) {
		t.Fatalf("the pool is %v, not %v", now, was)
	}
}

// holds fails unless the arena has that word there.
func holds(t *testing.T, p *pool.Pool, at int, want uint64) {
	t.Helper()
	if x, e := p.Arena().Load(at); x != want || e != api.OK {
		t.Fatalf("at %d stands %d, %d, not %d", at, x, e, want)
	}
}

// is fails unless the errors are the same.
func is(t *testing.T, what string, e, want api.Errno) {
	t.Helper()
	if e != want {
		t.Fatalf("%s: %d, not %d", what, e, want)
	}
}

// steps is a row of numbers that look like chance, and are the same at each run.
type steps uint64

func (s *steps) next(n int) int {
	*s = *s*6364136223846793005 + 1442695040888963407
	return int(*s>>33) % n
}

func (s *steps) of(l []int) int { return l[s.next(len(l))] }

func mixed(s *steps, l []int) []int {
	l = slices.Clone(l)
	for i := range l {
		k := i + s.next(len(l)-i)
		l[i], l[k] = l[k], l[i]
	}
	return l
}
