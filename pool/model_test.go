package pool_test

import (
	"bytes"
	"slices"
	"testing"

	"quartermaster/api"
	"quartermaster/pool"
)

// classes are all there are, and costOf is what they cost by the chapter's text.
var classes = []int{api.Factory, api.Task, api.Thread, api.Gate, api.Irq, api.Node, api.Leaf}

func costOf(class int) int {
	switch class {
	case 1:
		return 64
	case 2:
		return 128
	case 3, 7:
		return 256
	case 4, 5:
		return 32
	case 6:
		return 48
	}
	return 0
}

// thing is memory that is used: its class, where it begins, for whom it was got, and the byte that is written all over it.
type thing struct {
	class, at, factory int
	mark               byte
}

// account is a factory of the model, which stays in its list when it is closed.
type account struct {
	parent, limit, charged int
	closed                 bool
}

// model is a pool as a plain list of what is used, from which slabs and free blocks are worked out anew each time.
type model struct {
	size     int
	used     []thing
	frames   []api.Block // of others
	accounts []account
}

func pageOf(at int) int { return at - at%1024 }

func (m *model) has(id int) bool { return id >= 0 && id < len(m.accounts) && !m.accounts[id].closed }

func (m *model) use(id int) int {
	n := m.accounts[id].charged
	for k, a := range m.accounts {
		if m.has(k) && a.parent == id {
			n += a.limit
		}
	}
	return n
}

// usedOf is where used places of a class begin, rising.
func (m *model) usedOf(class int) []int {
	var l []int
	for _, x := range m.used {
		if x.class == class {
			l = append(l, x.at)
		}
	}
	slices.Sort(l)
	return l
}

// pages are those of a class's slabs, rising.
func (m *model) pages(class int) []int {
	l := m.usedOf(class)
	for i := range l {
		l[i] = pageOf(l[i])
	}
	return slices.Compact(l)
}

// blocks are all used blocks, by rising addresses.
func (m *model) blocks() []api.Block {
	l := slices.Clone(m.frames)
	for _, class := range classes {
		for _, page := range m.pages(class) {
			l = append(l, api.Block{At: page})
		}
	}
	slices.SortFunc(l, func(x, y api.Block) int { return x.At - y.At })
	return l
}

// free are the greatest blocks that touch no used one, by rising addresses.
func (m *model) free() []api.Block {
	taken := make([]bool, m.size/1024)
	for _, b := range m.blocks() {
		for i := range 1 << b.Order {
			taken[b.At/1024+i] = true
		}
	}
	var l []api.Block
	for page := 0; page < len(taken); {
		if taken[page] {
			page++
			continue
		}
		k := 0
		for n := 2 << k; page%n == 0 && page+n <= len(taken) && !slices.Contains(taken[page:page+n], true); n = 2 << k {
			k++
		}
		l = append(l, api.Block{At: page * 1024, Order: k})
		page += 1 << k
	}
	return l
}

// lowest is the free block, of the least order from that on, of the lowest address; false without.
func (m *model) lowest(order int) (int, bool) {
	best, ok := api.Block{}, false
	for _, b := range m.free() {
		if b.Order >= order && (!ok || b.Order < best.Order) {
			best, ok = b, true
		}
	}
	return best.At, ok
}

// place is where the next memory of a class begins; false if there is no block.
func (m *model) place(class int) (int, bool) {
	cost := costOf(class)
	used := m.usedOf(class)
	for _, page := range m.pages(class) {
		for at := page + 64; at+cost <= page+1024; at += cost {
			if !slices.Contains(used, at) {
				return at, true
			}
		}
	}
	page, ok := m.lowest(0)
	return page + 64, ok
}

func (m *model) get(factory, class int) (int, api.Errno) {
	cost := costOf(class)
	switch {
	case cost == 0:
		return 0, api.ErrArg
	case !m.has(factory):
		return 0, api.ErrNone
	case m.use(factory)+cost > m.accounts[factory].limit:
		return 0, api.ErrQuota
	}
	at, ok := m.place(class)
	if !ok {
		return 0, api.ErrMemory
	}
	m.accounts[factory].charged += cost
	m.used = append(m.used, thing{class: class, at: at, factory: factory})
	return at, api.OK
}

func (m *model) find(class, at int) int {
	return slices.IndexFunc(m.used, func(x thing) bool { return x.class == class && x.at == at })
}

func (m *model) put(factory, class, at int) api.Errno {
	cost := costOf(class)
	i := m.find(class, at)
	switch {
	case cost == 0:
		return api.ErrArg
	case i < 0 || !m.has(factory):
		return api.ErrNone
	case m.accounts[factory].charged < cost:
		return api.ErrArg
	}
	m.accounts[factory].charged -= cost
	m.used = slices.Delete(m.used, i, i+1)
	return api.OK
}

// steps is a row of numbers that look like chance, and are the same at each run.
type steps uint64

func (s *steps) next(n int) int {
	*s = *s*6364136223846793005 + 1442695040888963407
	return int(*s>>33) % n
}

func (s *steps) of(l []int) int { return l[s.next(len(l))] }

func mixed[T any](s *steps, l []T) []T {
	l = slices.Clone(l)
	for i := range l {
		k := i + s.next(len(l)-i)
		l[i], l[k] = l[k], l[i]
	}
	return l
}

// both is a pool and its model; the first ones of the others' blocks, so many, stay used in mixed steps.
type both struct {
	p *pool.Pool
	model
	mark byte
	stay int
}

func made(t *testing.T, size, limit int) *both {
	t.Helper()
	p := pool.New(size, limit)
	if p == nil {
		t.Fatalf("New(%d, %d) is nil", size, limit)
	}
	return &both{p: p, model: model{size: size, accounts: []account{{parent: -1, limit: limit}}}}
}

// same fails unless all that is told of the pool, of its tree and of its blocks is what the model has, and all used memory holds what was written to it.
func (b *both) same(t *testing.T) {
	t.Helper()
	b.sameUsed(t)
	b.sameTree(t)
	if got, want := b.p.Blocks().Used(), b.blocks(); !slices.Equal(got, want) {
		t.Fatalf("used blocks are %v, not %v", got, want)
	}
	if got, want := b.p.Blocks().Free(), b.free(); !slices.Equal(got, want) {
		t.Fatalf("free blocks are %v, not %v", got, want)
	}
}

func (b *both) sameUsed(t *testing.T) {
	t.Helper()
	for class := -1; class <= 9; class++ {
		if got, want := b.p.Used(class), b.usedOf(class); !slices.Equal(got, want) {
			t.Fatalf("Used(%d) = %v, not %v", class, got, want)
		}
	}
	for _, x := range b.used {
		for class := -1; class <= 9; class++ {
			if got, want := b.p.Has(class, x.at), class == x.class; got != want {
				t.Fatalf("Has(%d, %d) = %t of a place of the class %d", class, x.at, got, x.class)
			}
		}
		if got, e := b.p.Arena().Read(x.at, costOf(x.class)); e != api.OK || !bytes.Equal(got, bytes.Repeat([]byte{x.mark}, costOf(x.class))) {
			t.Fatalf("the place of the class %d at %d holds %v, not %d all over", x.class, x.at, got, x.mark)
		}
	}
}

func (b *both) sameTree(t *testing.T) {
	t.Helper()
	q := b.p.Quota()
	var ids []int
	for id, a := range b.accounts {
		if !b.has(id) {
			continue
		}
		ids = append(ids, id)
		if got, want := [3]int{q.Charged(id), q.Use(id), q.Limit(id)}, [3]int{a.charged, b.use(id), a.limit}; got != want {
			t.Fatalf("of %d: Charged, Use, Limit = %v, not %v", id, got, want)
		}
	}
	if got := q.Ids(); !slices.Equal(got, ids) {
		t.Fatalf("Ids() = %v, not %v", got, ids)
	}
}

// What begins with do is done to both, and fails unless they answer the same.

// doGet writes a new byte all over what is got, once it was seen to be 0.
func (b *both) doGet(t *testing.T, factory, class int) (int, api.Errno) {
	t.Helper()
	at, e := b.p.Get(factory, class)
	if wantAt, want := b.get(factory, class); at != wantAt || e != want {
		t.Fatalf("Get(%d, %d) = %d, %d, not %d, %d", factory, class, at, e, wantAt, want)
	}
	if e != api.OK {
		return at, e
	}
	zeros(t, b.p, at, costOf(class))
	b.mark = b.mark%250 + 1
	b.used[len(b.used)-1].mark = b.mark
	if e := b.p.Arena().Fill(at, costOf(class), b.mark); e != api.OK {
		t.Fatalf("Fill(%d, %d) = %d", at, costOf(class), e)
	}
	return at, e
}

func (b *both) doPut(t *testing.T, factory, class, at int) api.Errno {
	t.Helper()
	e := b.p.Put(factory, class, at)
	if want := b.put(factory, class, at); e != want {
		t.Fatalf("Put(%d, %d, %d) = %d, not %d", factory, class, at, e, want)
	}
	return e
}

func (b *both) doCarve(t *testing.T, parent, limit int) int {
	t.Helper()
	id, e := b.p.Quota().Carve(parent, limit)
	if id != len(b.accounts) || e != api.OK {
		t.Fatalf("Carve(%d, %d) = %d, %d, not %d", parent, limit, id, e, len(b.accounts))
	}
	b.accounts = append(b.accounts, account{parent: parent, limit: limit})
	return id
}

func (b *both) doClose(t *testing.T, id int) {
	t.Helper()
	is(t, "Close", b.p.Quota().Close(id), api.OK)
	b.accounts[id].closed = true
}

// doFrame takes a block of the allocator for others; it is false if there is none.
func (b *both) doFrame(t *testing.T, order int) bool {
	t.Helper()
	want, ok := b.lowest(order)
	at, e := b.p.Blocks().Take(order)
	if ok && (at != want || e != api.OK) || !ok && (at != 0 || e != api.ErrMemory) {
		t.Fatalf("a block of the order %d: %d, %d, not %d, %t", order, at, e, want, ok)
	}
	if ok {
		b.frames = append(b.frames, api.Block{At: at, Order: order})
	}
	return ok
}

// doUnframe gives the i-th of the others' blocks back.
func (b *both) doUnframe(t *testing.T, i int) {
	t.Helper()
	is(t, "Give", b.p.Blocks().Give(b.frames[i].At), api.OK)
	b.frames = slices.Delete(b.frames, i, i+1)
}

// doPutAll puts all back for whom it was got, in mixed order.
func (b *both) doPutAll(t *testing.T, s *steps) {
	t.Helper()
	for _, x := range mixed(s, b.used) {
		is(t, "Put", b.doPut(t, x.factory, x.class, x.at), api.OK)
	}
}

// is fails unless the errors are the same.
func is(t *testing.T, what string, e, want api.Errno) {
	t.Helper()
	if e != want {
		t.Fatalf("%s: %d, not %d", what, e, want)
	}
}

// zeros fails unless so many bytes are 0.
func zeros(t *testing.T, p *pool.Pool, at, n int) {
	t.Helper()
	if l, e := p.Arena().Read(at, n); e != api.OK || !bytes.Equal(l, make([]byte, n)) {
		t.Fatalf("the %d bytes at %d are %v, %d", n, at, l, e)
	}
}

// state is all that can be told of a pool: what is used, what is charged, which blocks are free or used.
type state struct {
	used         [8][]int
	ids, numbers []int
	free, blocks []api.Block
	bytes        []byte
}

func stateOf(p *pool.Pool) state {
	var s state
	for class := range s.used {
		s.used[class] = p.Used(class)
	}
	s.ids = p.Quota().Ids()
	for _, id := range s.ids {
		s.numbers = append(s.numbers, p.Quota().Charged(id), p.Quota().Use(id), p.Quota().Limit(id), p.Quota().Parent(id))
	}
	s.free, s.blocks = p.Blocks().Free(), p.Blocks().Used()
	for class, l := range s.used {
		for _, at := range l {
			b, _ := p.Arena().Read(at, pool.Cost(class))
			s.bytes = append(s.bytes, b...)
		}
	}
	return s
}

// stays fails unless the pool is as it was.
func stays(t *testing.T, p *pool.Pool, was state) {
	t.Helper()
	now := stateOf(p)
	for class := range now.used {
		if !slices.Equal(now.used[class], was.used[class]) {
			t.Fatalf("Used(%d) = %v, not %v", class, now.used[class], was.used[class])
		}
	}
	if !slices.Equal(now.ids, was.ids) || !slices.Equal(now.numbers, was.numbers) {
		t.Fatalf("factories are %v with %v, not %v with %v", now.ids, now.numbers, was.ids, was.numbers)
	}
	if !slices.Equal(now.free, was.free) || !slices.Equal(now.blocks, was.blocks) {
		t.Fatalf("blocks are free %v, used %v, not %v, %v", now.free, now.blocks, was.free, was.blocks)
	}
	if !bytes.Equal(now.bytes, was.bytes) {
		t.Fatal("bytes of used memory turned")
	}
}
