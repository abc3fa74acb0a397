package pool_test

import (
	"math"
	"slices"
	"testing"

	"quartermaster/api"
	"quartermaster/pool"
)

// noClasses are numbers of no class: those beside the classes, and far ones, of which a cut-off number would be a class.
var noClasses = []int{math.MinInt, math.MinInt + 1, -1 << 32, -1<<32 + 1, -256, -7, -1, 0, 8, 9, 15, 255, 256 + 1, 1<<16 + 2, 1<<32 + 3, 1<<32 + 7, 1 << 62, math.MaxInt - 1, math.MaxInt}

// gets fails unless memory of a class is got there.
func gets(t *testing.T, p *pool.Pool, factory, class, want int) {
	t.Helper()
	if at, e := p.Get(factory, class); at != want || e != api.OK {
		t.Fatalf("Get(%d, %d) = %d, %d, not %d", factory, class, at, e, want)
	}
}

// refuses fails unless nothing is got, for that error, and the pool stays as it was.
func refuses(t *testing.T, p *pool.Pool, factory, class int, want api.Errno) {
	t.Helper()
	was := stateOf(p)
	if at, e := p.Get(factory, class); at != 0 || e != want {
		t.Fatalf("Get(%d, %d) = %d, %d, not 0, %d", factory, class, at, e, want)
	}
	stays(t, p, was)
}

// keeps fails unless nothing is put back, for that error, and the pool stays as it was.
func keeps(t *testing.T, p *pool.Pool, factory, class, at int, want api.Errno) {
	t.Helper()
	was := stateOf(p)
	if e := p.Put(factory, class, at); e != want {
		t.Fatalf("Put(%d, %d, %d) = %d, not %d", factory, class, at, e, want)
	}
	stays(t, p, was)
}

// carves fails unless the factory's child has that number.
func carves(t *testing.T, p *pool.Pool, parent, limit, want int) {
	t.Helper()
	if id, e := p.Quota().Carve(parent, limit); id != want || e != api.OK {
		t.Fatalf("Carve(%d, %d) = %d, %d, not %d", parent, limit, id, e, want)
	}
}

// uses fails unless these are the uses of the factories 0, 1, ..
func uses(t *testing.T, p *pool.Pool, l ...int) {
	t.Helper()
	for id, want := range l {
		if got := p.Quota().Use(id); got != want {
			t.Fatalf("Use(%d) = %d, not %d", id, got, want)
		}
	}
}

// whole fails unless nothing is used, and all is one free block of that order.
func whole(t *testing.T, p *pool.Pool, order int) {
	t.Helper()
	for class := range 9 {
		if l := p.Used(class); len(l) != 0 {
			t.Fatalf("Used(%d) = %v", class, l)
		}
	}
	if free, used := p.Blocks().Free(), p.Blocks().Used(); !slices.Equal(free, []api.Block{{At: 0, Order: order}}) || len(used) != 0 {
		t.Fatalf("blocks are free %v, used %v", free, used)
	}
}

// The chapter's examples.
func TestExamples(t *testing.T) {
	p := pool.New(65536, 100)
	refuses(t, p, 0, api.Task, api.ErrQuota)
	gets(t, p, 0, api.Factory, 64)
	uses(t, p, 64)
}

// P6.1: the cost of each class, and 0 of what is none.
func TestCost(t *testing.T) {
	for _, x := range [][2]int{{api.Factory, 64}, {api.Task, 128}, {api.Thread, 256}, {api.Gate, 32}, {api.Irq, 32}, {api.Node, 48}, {api.Leaf, 256}} {
		if got := pool.Cost(x[0]); got != x[1] {
			t.Errorf("Cost(%d) = %d, not %d", x[0], got, x[1])
		}
	}
	for _, class := range append([]int{api.Frame}, noClasses...) {
		if got := pool.Cost(class); got != 0 {
			t.Errorf("Cost(%d) = %d, not 0", class, got)
		}
	}
}

// P6.1, P6.2: a new pool of each size: its arena, all bytes 0, its tree of the root alone, its blocks one free one, and nothing used.
func TestNewOfEachSize(t *testing.T) {
	for k := 16; k <= 22; k++ {
		size := 1 << k
		for _, limit := range []int{0, 1, 31, size / 2, size - 1, size} {
			p := made(t, size, limit).p
			if p.Arena().Size() != size || !slices.Equal(p.Quota().Ids(), []int{0}) || p.Quota().Limit(0) != limit || p.Quota().Use(0) != 0 {
				t.Fatalf("New(%d, %d): size %d, factories %v, limit %d, use %d", size, limit, p.Arena().Size(), p.Quota().Ids(), p.Quota().Limit(0), p.Quota().Use(0))
			}
			if p.Blocks().Left() != size {
				t.Fatalf("New(%d, %d): %d bytes left", size, limit, p.Blocks().Left())
			}
			whole(t, p, k-10)
		}
		zeros(t, pool.New(size, 0), 0, size)
	}
}

// P6.1: the greatest pool, at its last page.
func TestTheGreatest(t *testing.T) {
	p := pool.New(api.GreatMem, api.GreatMem)
	for k := 19; k >= 0; k-- {
		p.Blocks().Take(k)
	}
	last := api.GreatMem - 1024
	gets(t, p, 0, api.Leaf, last+64)
	gets(t, p, 0, api.Leaf, last+320)
	gets(t, p, 0, api.Leaf, last+576)
	refuses(t, p, 0, api.Leaf, api.ErrMemory)
	uses(t, p, 768)
	zeros(t, p, last+64, 768)
	if pool.New(api.GreatMem, api.GreatMem+1) != nil || pool.New(api.GreatMem<<1, 0) != nil || pool.New(api.GreatMem<<1, api.GreatMem) != nil {
		t.Error("a pool beyond the greatest")
	}
}

// P6.1: New is nil of a size that no arena has, whatever the limit is.
func TestNewOfNoSuchArenaIsNil(t *testing.T) {
	for _, size := range []int{math.MinInt, -65536, -1, 0, 1, 2, 1000, 1024, 32768, 65535, 65537, 65536 + 1024, 65536 * 3, 1<<17 - 1, 1<<17 + 1, 1<<30 - 1, 1<<30 + 1, 1 << 31, 1 << 32, 1<<32 + 65536, 1 << 62, math.MaxInt} {
		for _, limit := range []int{math.MinInt, -65536, -1, 0, 1, 10, 65536, size - 1, size, 1 << 30, math.MaxInt} {
			if pool.New(size, limit) != nil {
				t.Errorf("New(%d, %d) isn't nil", size, limit)
			}
		}
	}
}

// P6.1: New is nil of a limit below 0, or of more than the size, also where a tree might have such a limit.
func TestNewOfNoSuchLimitIsNil(t *testing.T) {
	for _, size := range []int{1 << 16, 1 << 17, 1 << 20} {
		for _, limit := range []int{math.MinInt, math.MinInt + 1, -1 << 32, -1<<32 + 100, -size, -2, -1, size + 1, size + 2, size + 1024, 2 * size, 1<<30 - 1, 1 << 30, 1<<30 + 1, 1 << 32, 1<<32 + 100, 1 << 62, math.MaxInt} {
			if pool.New(size, limit) != nil {
				t.Errorf("New(%d, %d) isn't nil", size, limit)
			}
		}
	}
}

// P6.1: memory of each class, of a pool of its own: places lie one behind the other, as many on a page as fit behind its head, and each is charged.
func TestGetOfEachClass(t *testing.T) {
	for _, class := range classes {
		b := made(t, 65536, 65536)
		cost := costOf(class)
		n := 0
		for page := 0; page < 3072; page += 1024 {
			for i := range 960 / cost {
				n++
				gets(t, b.p, 0, class, page+64+i*cost)
				uses(t, b.p, n*cost)
				if l := b.p.Used(class); len(l) != n || l[n-1] != page+64+i*cost || !slices.IsSorted(l) {
					t.Fatalf("Used(%d) = %v", class, l)
				}
			}
		}
		for _, other := range append(classes, noClasses...) {
			if other != class && (len(b.p.Used(other)) != 0 || b.p.Has(other, 64)) {
				t.Errorf("of the class %d: Used(%d) = %v", class, other, b.p.Used(other))
			}
		}
		if want := []api.Block{{At: 0}, {At: 1024}, {At: 2048}}; !slices.Equal(b.p.Blocks().Used(), want) {
			t.Errorf("of the class %d: used blocks are %v", class, b.p.Blocks().Used())
		}
	}
}

// P6.1: each class has slabs of its own, those of one size too.
func TestGetOfAllClasses(t *testing.T) {
	b := made(t, 65536, 65536)
	for round := range 3 {
		for i, class := range classes {
			gets(t, b.p, 0, class, i*1024+64+round*costOf(class))
		}
	}
	// The fourth Thread and the fourth Leaf begin a new page.
	gets(t, b.p, 0, api.Leaf, 7*1024+64)
	gets(t, b.p, 0, api.Thread, 8*1024+64)
	gets(t, b.p, 0, api.Gate, 3*1024+160)
	uses(t, b.p, 3*(64+128+256+32+32+48+256)+256+256+32)
}

// P6.1: memory of all classes for several factories, in mixed order: each pays for its own.
func TestGetForSeveralFactories(t *testing.T) {
	b := made(t, 1<<17, 1<<17)
	b.doCarve(t, 0, 30000)
	b.doCarve(t, 0, 20000)
	b.doCarve(t, 1, 9000)
	var s steps = 61
	want := [4]int{50000, 9000, 0, 0}
	for range 120 {
		factory, class := s.next(4), s.of(classes)
		if _, e := b.doGet(t, factory, class); e != api.OK {
			t.Fatalf("Get(%d, %d) = %d", factory, class, e)
		}
		want[factory] += costOf(class)
		uses(t, b.p, want[:]...)
		b.same(t)
	}
	for _, x := range mixed(&s, b.used) {
		is(t, "Put", b.doPut(t, x.factory, x.class, x.at), api.OK)
		want[x.factory] -= costOf(x.class)
		uses(t, b.p, want[:]...)
		b.same(t)
	}
	whole(t, b.p, 7)
}

// P6.1: of no such class it is ErrArg, whoever is to pay.
func TestGetOfNoSuchClass(t *testing.T) {
	p := pool.New(65536, 65536)
	gets(t, p, 0, api.Task, 64)
	for _, class := range append([]int{api.Frame}, noClasses...) {
		for _, factory := range []int{math.MinInt, -1, 0, 1, math.MaxInt} {
			refuses(t, p, factory, class, api.ErrArg)
		}
	}
}

// P6.1: a factory that isn't there, or isn't there any more, is ErrNone.
func TestGetForNoSuchFactory(t *testing.T) {
	p := pool.New(65536, 65536)
	carves(t, p, 0, 500, 1)
	carves(t, p, 0, 500, 2)
	gets(t, p, 2, api.Node, 64)
	is(t, "Close(1)", p.Quota().Close(1), api.OK)
	for _, factory := range []int{math.MinInt, -1 << 32, -2, -1, 1, 3, 31, 32, 1 << 32, 1<<32 + 2, math.MaxInt} {
		for _, class := range classes {
			refuses(t, p, factory, class, api.ErrNone)
		}
	}
}

// P6.1: a cost that just fits what is left is got, and one more isn't; of the root and of a child, with and without other charges and children.
func TestGetThatJustFits(t *testing.T) {
	for _, class := range classes {
		cost := costOf(class)
		refuses(t, pool.New(65536, cost-1), 0, class, api.ErrQuota)
		gets(t, pool.New(65536, cost), 0, class, 64)
		p := pool.New(65536, 3*cost-1)
		gets(t, p, 0, class, 64)
		gets(t, p, 0, class, 64+cost)
		refuses(t, p, 0, class, api.ErrQuota)
		uses(t, p, 2*cost)

		p = pool.New(65536, 5000)
		carves(t, p, 0, 4000, 1)
		carves(t, p, 1, 4000-2*cost, 2)
		gets(t, p, 1, class, 64)
		is(t, "Charge(1, 1)", p.Quota().Charge(1, 1), api.OK)
		refuses(t, p, 1, class, api.ErrQuota)
		is(t, "Refund(1, 1)", p.Quota().Refund(1, 1), api.OK)
		gets(t, p, 1, class, 64+cost)
		refuses(t, p, 1, class, api.ErrQuota)
		is(t, "Put", p.Put(1, class, 64), api.OK)
		gets(t, p, 1, class, 64)
		uses(t, p, 4000, 4000, 0)
	}
}

// P6.1: of the limits 0 and those beside the least cost, and of the size itself.
func TestGetAtTheLimits(t *testing.T) {
	for _, limit := range []int{0, 1, 31} {
		p := pool.New(65536, limit)
		for _, class := range classes {
			refuses(t, p, 0, class, api.ErrQuota)
		}
		whole(t, p, 6)
	}
	for _, limit := range []int{32, 33, 47} {
		p := pool.New(65536, limit)
		gets(t, p, 0, api.Irq, 64)
		for _, class := range classes {
			refuses(t, p, 0, class, api.ErrQuota)
		}
	}
	// A child may use up all of the root's, and then the root has nothing left.
	p := pool.New(65536, 65536)
	carves(t, p, 0, 65536, 1)
	for _, class := range classes {
		refuses(t, p, 0, class, api.ErrQuota)
	}
	gets(t, p, 1, api.Leaf, 64)
	uses(t, p, 65536, 256)
}

// P6.1: what others use up of their accounts plays no part.
func TestOthersPlayNoPart(t *testing.T) {
	p := pool.New(65536, 2000)
	carves(t, p, 0, 512, 1)
	carves(t, p, 0, 512, 2)
	gets(t, p, 1, api.Thread, 64)
	gets(t, p, 1, api.Thread, 320)
	refuses(t, p, 1, api.Gate, api.ErrQuota)
	gets(t, p, 2, api.Thread, 576)
	gets(t, p, 0, api.Gate, 1088)
	gets(t, p, 2, api.Leaf, 2112)
	refuses(t, p, 2, api.Irq, api.ErrQuota)
	uses(t, p, 1056, 512, 512)
}
