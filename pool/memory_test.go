package pool_test

import (
	"bytes"
	"math"
	"slices"
	"testing"

	"quartermaster/api"
	"quartermaster/arena"
	"quartermaster/buddy"
	"quartermaster/pool"
	"quartermaster/quota"
)

// fill gets memory of a class until there is no block.
func (b *both) fill(t *testing.T, factory, class int) int {
	t.Helper()
	for n := 0; ; n++ {
		if _, e := b.doGet(t, factory, class); e != api.OK {
			is(t, "Get", e, api.ErrMemory)
			return n
		}
	}
}

// P6.1: where there is no block, nothing is charged, and nothing else turns; of each class as many are got as all pages have places.
func TestGetWithoutABlock(t *testing.T) {
	for _, class := range classes {
		b := made(t, 65536, 65536)
		b.doCarve(t, 0, 512)
		n := b.fill(t, 0, class)
		if want := 64 * (960 / costOf(class)); n != want {
			t.Fatalf("%d of the class %d, not %d", n, class, want)
		}
		uses(t, b.p, 512+n*costOf(class), 0)
		for _, other := range classes {
			refuses(t, b.p, 0, other, api.ErrMemory)
			refuses(t, b.p, 1, other, api.ErrMemory)
		}
		b.same(t)
		uses(t, b.p, 512+n*costOf(class), 0)
	}
}

// P6.1: a slab with a free place is used though there is no block; when one comes back, of a slab or of others, it does for any class.
func TestGetOfTheLastPlaces(t *testing.T) {
	b := made(t, 65536, 65536)
	for _, class := range classes {
		b.doGet(t, 0, class)
	}
	for b.doFrame(t, 0) {
	}
	for _, class := range classes {
		n := b.fill(t, 0, class)
		if want := 960/costOf(class) - 1; n != want {
			t.Fatalf("%d more of the class %d, not %d", n, class, want)
		}
	}
	b.same(t)
	frame := slices.IndexFunc(b.frames, func(f api.Block) bool { return f.At == 20*1024 })
	b.doUnframe(t, frame)
	if at, e := b.doGet(t, 0, api.Node); at != 20*1024+64 || e != api.OK {
		t.Fatalf("Get = %d, %d", at, e)
	}
	refuses(t, b.p, 0, api.Leaf, api.ErrMemory)
	for _, at := range b.p.Used(api.Task) {
		refuses(t, b.p, 0, api.Leaf, api.ErrMemory)
		is(t, "Put", b.doPut(t, 0, api.Task, at), api.OK)
	}
	if at, e := b.doGet(t, 0, api.Leaf); at != 1024+64 || e != api.OK {
		t.Fatalf("Get = %d, %d", at, e)
	}
	refuses(t, b.p, 0, api.Task, api.ErrMemory)
	b.same(t)
}

// P6.1: where two errors of a Get are at hand, the one that is named first is told.
func TestGetTellsTheFirstError(t *testing.T) {
	p := pool.New(65536, 65536)
	carves(t, p, 0, 300, 1)
	carves(t, p, 0, 0, 2)
	gets(t, p, 1, api.Thread, 64)
	p.Blocks().Take(5)
	for k := 4; k >= 0; k-- {
		p.Blocks().Take(k)
	}
	is(t, "Put", p.Put(1, api.Thread, 64), api.OK)
	p.Blocks().Take(0)
	if p.Blocks().Left() != 0 {
		t.Fatalf("%d bytes left", p.Blocks().Left())
	}
	is(t, "Charge(1, 260)", p.Quota().Charge(1, 260), api.OK)
	for i, x := range []struct {
		factory, class int
		e              api.Errno
	}{
		{9, 0, api.ErrArg},             // before ErrNone
		{-1, 8, api.ErrArg},            // before ErrNone
		{2, -1, api.ErrArg},            // before ErrQuota
		{0, 9, api.ErrArg},             // before ErrMemory
		{3, api.Gate, api.ErrNone},     // before ErrMemory
		{-1, api.Leaf, api.ErrNone},    // before ErrMemory
		{2, api.Irq, api.ErrQuota},     // before ErrMemory
		{1, api.Node, api.ErrQuota},    // before ErrMemory
		{1, api.Thread, api.ErrQuota},  // before ErrMemory
		{1, api.Gate, api.ErrMemory},   // 40 are left
		{0, api.Thread, api.ErrMemory}, // much is left
	} {
		was := stateOf(p)
		if at, e := p.Get(x.factory, x.class); at != 0 || e != x.e {
			t.Errorf("case %d: Get(%d, %d) = %d, %d, not 0, %d", i, x.factory, x.class, at, e, x.e)
		}
		stays(t, p, was)
	}
	// Where there is but one place less than needed, the charge just fits, and is taken back.
	is(t, "Charge(1, 8)", p.Quota().Charge(1, 8), api.OK)
	refuses(t, p, 1, api.Gate, api.ErrMemory)
	is(t, "Charge(1, 32)", p.Quota().Charge(1, 32), api.OK)
	refuses(t, p, 1, api.Gate, api.ErrQuota)
}

// P6.1: memory that is put back is free, refunded, and got again first; the others stay.
func TestPut(t *testing.T) {
	for _, class := range classes {
		b := made(t, 65536, 65536)
		cost := costOf(class)
		for range 3 {
			b.doGet(t, 0, class)
		}
		for _, i := range []int{1, 0, 2} {
			at := 64 + i*cost
			is(t, "Put", b.doPut(t, 0, class, at), api.OK)
			uses(t, b.p, 2*cost)
			if b.p.Has(class, at) || slices.Contains(b.p.Used(class), at) {
				t.Fatalf("the class %d still has %d", class, at)
			}
			b.same(t)
			if got, e := b.doGet(t, 0, class); got != at || e != api.OK {
				t.Fatalf("Get(0, %d) = %d, %d, not %d", class, got, e, at)
			}
			uses(t, b.p, 3*cost)
			b.same(t)
		}
		var s steps = 7
		b.doPutAll(t, &s)
		uses(t, b.p, 0)
		whole(t, b.p, 6)
	}
}

// P6.1: of no such class it is ErrArg, whatever else is wrong.
func TestPutOfNoSuchClass(t *testing.T) {
	p := pool.New(65536, 65536)
	gets(t, p, 0, api.Task, 64)
	for _, class := range append([]int{api.Frame}, noClasses...) {
		for _, at := range []int{math.MinInt, -1, 0, 64, 65, math.MaxInt} {
			keeps(t, p, 0, class, at, api.ErrArg)
			keeps(t, p, 5, class, at, api.ErrArg)
		}
	}
}

// P6.1: a place that isn't used is ErrNone: beside a used one, in a head, behind the last place, on a free page, on one of others, beyond the arena.
func TestPutOfWhatIsNotUsed(t *testing.T) {
	for _, class := range classes {
		p := pool.New(65536, 65536)
		cost := costOf(class)
		for i := range 3 {
			gets(t, p, 0, class, 64+i*cost)
		}
		is(t, "Put", p.Put(0, class, 64+cost), api.OK)
		frame, _ := p.Blocks().Take(0)
		for _, at := range []int{
			math.MinInt, math.MinInt + 64, -65536 + 64, -1024 + 64, -64, -1, 0, 1, 32, 63, 65, 64 + 16, 64 + cost - 1, 64 + cost, 64 + cost + 1, 64 + 2*cost - 1, 64 + 2*cost + 1, 64 + 3*cost,
			64 + 960/cost*cost, 1023, 1024, frame, frame + 64, 8192, 8192 + 64, 65536 - 1024 + 64, 65536, 65536 + 64, 1<<32 + 64, 1 << 62, math.MaxInt,
		} {
			if p.Has(class, at) {
				t.Errorf("Has(%d, %d) is true", class, at)
			}
			keeps(t, p, 0, class, at, api.ErrNone)
		}
		uses(t, p, 2*cost)
	}
}

// P6.1: memory that is put back isn't put back again, neither when its slab is still there nor when it is gone.
func TestPutTwice(t *testing.T) {
	for _, class := range classes {
		p := pool.New(65536, 65536)
		is(t, "Charge(0, 1000)", p.Quota().Charge(0, 1000), api.OK)
		gets(t, p, 0, class, 64)
		gets(t, p, 0, class, 64+costOf(class))
		is(t, "Put", p.Put(0, class, 64), api.OK)
		keeps(t, p, 0, class, 64, api.ErrNone)
		is(t, "Put", p.Put(0, class, 64+costOf(class)), api.OK)
		keeps(t, p, 0, class, 64, api.ErrNone)
		keeps(t, p, 0, class, 64+costOf(class), api.ErrNone)
		uses(t, p, 1000)
	}
}

// P6.1: memory of one class isn't put back as another one's, not even of one of its size.
func TestPutOfAnotherClass(t *testing.T) {
	b := made(t, 65536, 65536)
	for range 2 {
		for _, class := range classes {
			b.doGet(t, 0, class)
		}
	}
	for _, x := range b.used {
		for _, class := range classes {
			if class == x.class {
				continue
			}
			if b.p.Has(class, x.at) {
				t.Errorf("Has(%d, %d) of memory of the class %d", class, x.at, x.class)
			}
			keeps(t, b.p, 0, class, x.at, api.ErrNone)
		}
	}
	b.same(t)
}

// P6.1: memory isn't put back for a factory that isn't there, or isn't there any more.
func TestPutForNoSuchFactory(t *testing.T) {
	p := pool.New(65536, 65536)
	carves(t, p, 0, 500, 1)
	carves(t, p, 0, 500, 2)
	is(t, "Close(1)", p.Quota().Close(1), api.OK)
	for i, class := range classes {
		gets(t, p, 0, class, i*1024+64)
		for _, factory := range []int{math.MinInt, -1 << 32, -2, -1, 1, 3, 31, 32, 1 << 32, 1<<32 + 2, math.MaxInt} {
			keeps(t, p, factory, class, i*1024+64, api.ErrNone)
		}
	}
}

// P6.1: it isn't put back for a factory to which less than the cost was charged; the limits of its children are no charge.
func TestPutForOneWhoWasChargedLess(t *testing.T) {
	for _, class := range classes {
		p := pool.New(65536, 65536)
		cost := costOf(class)
		carves(t, p, 0, 5000, 1)
		carves(t, p, 1, 4000, 2)
		gets(t, p, 0, class, 64)
		keeps(t, p, 1, class, 64, api.ErrArg)
		keeps(t, p, 2, class, 64, api.ErrArg)
		is(t, "Charge", p.Quota().Charge(1, cost-1), api.OK)
		keeps(t, p, 1, class, 64, api.ErrArg)
		is(t, "Charge", p.Quota().Charge(1, 1), api.OK)
		is(t, "Put for one who was charged as much", p.Put(1, class, 64), api.OK)
		uses(t, p, 5000+cost, 4000, 0)
		if p.Quota().Charged(1) != 0 || p.Has(class, 64) {
			t.Errorf("Charged(1) = %d, Has(%d, 64) = %t", p.Quota().Charged(1), class, p.Has(class, 64))
		}
		whole(t, p, 6)
	}
}

// P6.1: where two errors of a Put are at hand, the one that is named first is told.
func TestPutTellsTheFirstError(t *testing.T) {
	p := pool.New(65536, 65536)
	carves(t, p, 0, 500, 1)
	gets(t, p, 0, api.Thread, 64)
	for _, x := range []struct {
		factory, class, at int
		e                  api.Errno
	}{
		{0, 0, 65, api.ErrArg},            // before ErrNone of a place
		{7, 8, 64, api.ErrArg},            // before ErrNone of a factory
		{7, -1, 65, api.ErrArg},           // before both
		{7, api.Thread, 65, api.ErrNone},  // of both
		{7, api.Thread, 64, api.ErrNone},  // of the factory
		{1, api.Thread, 320, api.ErrNone}, // before ErrArg of a charge
		{1, api.Leaf, 64, api.ErrNone},    // before ErrArg of a charge
		{1, api.Thread, 64, api.ErrArg},   // of a charge
	} {
		keeps(t, p, x.factory, x.class, x.at, x.e)
	}
	is(t, "Put", p.Put(0, api.Thread, 64), api.OK)
}

// P6.1: all bytes of memory that is got are 0, whatever was written there before, and no byte of other used memory turns.
func TestBytesAre0(t *testing.T) {
	for _, class := range classes {
		p := pool.New(65536, 65536)
		cost := costOf(class)
		is(t, "Fill", p.Arena().Fill(0, 65536, 0xff), api.OK)
		for i := range 3 {
			gets(t, p, 0, class, 64+i*cost)
			zeros(t, p, 64+i*cost, cost)
			is(t, "Fill", p.Arena().Fill(64+i*cost, cost, byte(i+1)), api.OK)
		}
		is(t, "Put", p.Put(0, class, 64+cost), api.OK)
		gets(t, p, 0, class, 64+cost)
		zeros(t, p, 64+cost, cost)
		for _, i := range []int{0, 2} {
			if l, _ := p.Arena().Read(64+i*cost, cost); !bytes.Equal(l, bytes.Repeat([]byte{byte(i + 1)}, cost)) {
				t.Errorf("of the class %d: the bytes of the place %d are %v", class, i, l)
			}
		}
	}
}

// P6.1: bytes are 0 too where the page was a slab of another class, or a block of others.
func TestBytesAre0OfPagesThatWereOthers(t *testing.T) {
	for _, before := range classes {
		for _, class := range classes {
			p := pool.New(65536, 65536)
			at, _ := p.Blocks().Take(0)
			is(t, "Fill", p.Arena().Fill(at, 1024, 0xaa), api.OK)
			is(t, "Give", p.Blocks().Give(at), api.OK)
			for i := range 960 / costOf(before) {
				gets(t, p, 0, before, 64+i*costOf(before))
				zeros(t, p, 64+i*costOf(before), costOf(before))
				is(t, "Fill", p.Arena().Fill(64+i*costOf(before), costOf(before), 0x55), api.OK)
			}
			for _, at := range p.Used(before) {
				is(t, "Put", p.Put(0, before, at), api.OK)
			}
			for i := range 960 / costOf(class) {
				gets(t, p, 0, class, 64+i*costOf(class))
				zeros(t, p, 64+i*costOf(class), costOf(class))
			}
		}
	}
}

// P6.2: of no such class there is nothing.
func TestHasAndUsedOfNoSuchClass(t *testing.T) {
	p := pool.New(65536, 65536)
	for _, class := range classes {
		p.Get(0, class)
	}
	for _, class := range append([]int{api.Frame}, noClasses...) {
		for _, at := range []int{math.MinInt, -1, 0, 64, 1088, 2112, math.MaxInt} {
			if p.Has(class, at) {
				t.Errorf("Has(%d, %d) is true", class, at)
			}
		}
		if l := p.Used(class); len(l) != 0 {
			t.Errorf("Used(%d) = %v", class, l)
		}
	}
}

// P6.2, rule 4: lists are new memory each time, their spare room too.
func TestListsAreNewMemory(t *testing.T) {
	b := made(t, 65536, 65536)
	for range 5 {
		for _, class := range classes {
			b.doGet(t, 0, class)
		}
	}
	for _, class := range classes {
		kept, spoilt := b.p.Used(class), b.p.Used(class)
		was := slices.Clone(kept)
		spoilt = spoilt[:cap(spoilt)]
		for i := range spoilt {
			spoilt[i] = -7
		}
		if !slices.Equal(kept, was) {
			t.Fatalf("an earlier answer is %v, not %v", kept, was)
		}
		b.same(t)
		is(t, "Put", b.doPut(t, 0, class, was[1]), api.OK)
		b.doGet(t, 0, class)
		b.doGet(t, 0, class)
		if !slices.Equal(kept, was) {
			t.Fatalf("later calls turned an answer to %v, not %v", kept, was)
		}
		b.same(t)
	}
}

// P6.2, rule 5: the arena, the tree and the allocator are its own ones, the same each time, and what is asked of them counts.
func TestItsOwnOnes(t *testing.T) {
	p := pool.New(65536, 1000)
	if p.Arena() != p.Arena() || p.Quota() != p.Quota() || p.Blocks() != p.Blocks() {
		t.Fatal("not the same each time")
	}
	is(t, "Charge", p.Quota().Charge(0, 900), api.OK)
	refuses(t, p, 0, api.Task, api.ErrQuota)
	gets(t, p, 0, api.Factory, 64)
	is(t, "Refund", p.Quota().Refund(0, 900), api.OK)
	if at, e := p.Blocks().Take(0); at != 1024 || e != api.OK {
		t.Fatalf("Take(0) = %d, %d", at, e)
	}
	gets(t, p, 0, api.Task, 2048+64)
	is(t, "Give", p.Blocks().Give(1024), api.OK)
	gets(t, p, 0, api.Node, 1024+64)
	is(t, "Store", p.Arena().Store(64, 9), api.OK)
	if x, e := p.Arena().Load(64); x != 9 || e != api.OK {
		t.Errorf("Load(64) = %d, %d", x, e)
	}
	carves(t, p, 0, 300, 1)
	gets(t, p, 1, api.Leaf, 3072+64)
	uses(t, p, 64+128+48+300, 256)
	is(t, "Close(1)", p.Quota().Close(1), api.ErrState)
}

// Ways: the methods of its tree and of its allocator are the pool's own too; Used is the pool's.
func TestMethodsOfItsParts(t *testing.T) {
	p := pool.New(65536, 1000)
	var parts interface {
		Carve(parent, limit int) (int, api.Errno)
		Charge(id, n int) api.Errno
		Take(order int) (int, api.Errno)
		Order(at int) int
		Used(class int) []int
	} = p
	if id, e := parts.Carve(0, 100); id != 1 || e != api.OK || p.Quota().Limit(1) != 100 {
		t.Errorf("Carve(0, 100) = %d, %d", id, e)
	}
	is(t, "Charge", parts.Charge(1, 60), api.OK)
	refuses(t, p, 1, api.Node, api.ErrQuota)
	if at, e := parts.Take(2); at != 0 || e != api.OK || p.Blocks().Order(0) != 2 || parts.Order(0) != 2 {
		t.Errorf("Take(2) = %d, %d", at, e)
	}
	gets(t, p, 1, api.Gate, 4096+64)
}

// P6.2: a nil pool answers ErrArg, false, nil, none, whatever it is asked.
func TestNilPool(t *testing.T) {
	var p *pool.Pool
	for _, class := range append(noClasses, classes...) {
		for _, n := range []int{math.MinInt, -1, 0, 1, 64, math.MaxInt} {
			if at, e := p.Get(n, class); at != 0 || e != api.ErrArg {
				t.Errorf("Get(%d, %d) = %d, %d", n, class, at, e)
			}
			is(t, "Put", p.Put(0, class, n), api.ErrArg)
			is(t, "Put", p.Put(n, class, 64), api.ErrArg)
			if p.Has(class, n) {
				t.Errorf("Has(%d, %d) is true", class, n)
			}
		}
		if l := p.Used(class); len(l) != 0 {
			t.Errorf("Used(%d) = %v", class, l)
		}
	}
	if p.Arena() != (*arena.Arena)(nil) || p.Quota() != (*quota.Tree)(nil) || p.Blocks() != (*buddy.Buddy)(nil) {
		t.Error("a nil pool has an arena, a tree or an allocator")
	}
}

// Two pools have nothing in common.
func TestTwoPools(t *testing.T) {
	a, b := made(t, 65536, 65536), made(t, 65536, 900)
	var s steps = 3
	for range 150 {
		a.step(t, &s)
		b.same(t)
		b.step(t, &s)
		a.same(t)
	}
}
