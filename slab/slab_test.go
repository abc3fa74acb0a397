package slab_test

import (
	"math"
	"slices"
	"testing"

	"quartermaster/api"
	"quartermaster/buddy"
	"quartermaster/slab"
)

// page is a slab of the model: where it begins, and which of its places are used.
type page struct {
	at   int
	used []bool
}

// model is a cache as a list of slabs, in the order in which they were made, gone through from the first to the last. It has the rules of its blocks by an allocator of its own, to which all is done that is done to the cache's.
type model struct {
	blocks *buddy.Buddy
	size   int
	pages  []page
}

// many is counted place by place, until the next one would reach beyond its page.
func (m *model) many() int {
	n := 0
	for 64+(n+1)*m.size <= 1024 {
		n++
	}
	return n
}

func (m *model) take() (int, api.Errno) {
	best := -1
	for i, p := range m.pages {
		if slices.Contains(p.used, false) && (best < 0 || p.at < m.pages[best].at) {
			best = i
		}
	}
	if best < 0 {
		at, e := m.blocks.Take(0)
		if e != api.OK {
			return 0, api.ErrMemory
		}
		best = len(m.pages)
		m.pages = append(m.pages, page{at: at, used: make([]bool, m.many())})
	}
	p := m.pages[best]
	i := slices.Index(p.used, false)
	p.used[i] = true
	return p.at + 64 + i*m.size, api.OK
}

func (m *model) give(at int) api.Errno {
	for k, p := range m.pages {
		for i := range p.used {
			if !p.used[i] || p.at+64+i*m.size != at {
				continue
			}
			p.used[i] = false
			if !slices.Contains(p.used, true) {
				m.pages = slices.Delete(m.pages, k, k+1)
				m.blocks.Give(p.at)
			}
			return api.OK
		}
	}
	return api.ErrNone
}

func (m *model) used() []int {
	var l []int
	for _, p := range m.pages {
		for i, on := range p.used {
			if on {
				l = append(l, p.at+64+i*m.size)
			}
		}
	}
	slices.Sort(l)
	return l
}

func (m *model) slabs() []int {
	var l []int
	for _, p := range m.pages {
		l = append(l, p.at)
	}
	slices.Sort(l)
	return l
}

// steps is a row of numbers that look like chance, and are the same at each run.
type steps uint64

func (s *steps) next(n int) int {
	*s = *s*6364136223846793005 + 1442695040888963407
	return int(*s>>33) % n
}

func (s *steps) mix(l []int) []int {
	l = slices.Clone(l)
	for i := range l {
		k := i + s.next(len(l)-i)
		l[i], l[k] = l[k], l[i]
	}
	return l
}

// world is an allocator with caches over it, and the same as models.
type world struct {
	size   int
	blocks *buddy.Buddy
	like   *buddy.Buddy
	caches []*slab.Cache
	models []*model
}

func made(t *testing.T, size int, sizes ...int) *world {
	t.Helper()
	w := &world{size: size, blocks: buddy.New(size), like: buddy.New(size)}
	for _, n := range sizes {
		c := slab.New(w.blocks, n)
		if c == nil {
			t.Fatalf("New(b, %d) is nil", n)
		}
		w.caches = append(w.caches, c)
		w.models = append(w.models, &model{blocks: w.like, size: n})
	}
	return w
}

// same fails unless all that is told of the caches and of their allocator is what the models have.
func (w *world) same(t *testing.T) {
	t.Helper()
	for k, c := range w.caches {
		m := w.models[k]
		if c.Size() != m.size || c.Many() != m.many() {
			t.Fatalf("cache %d: Size() = %d, Many() = %d, not %d, %d", k, c.Size(), c.Many(), m.size, m.many())
		}
		used := m.used()
		if got := c.Used(); !slices.Equal(got, used) {
			t.Fatalf("cache %d: Used() = %v, not %v", k, got, used)
		}
		if got, want := c.Slabs(), m.slabs(); !slices.Equal(got, want) {
			t.Fatalf("cache %d: Slabs() = %v, not %v", k, got, want)
		}
		for i, at := range used {
			if !c.Has(at) || c.Has(at-1) || c.Has(at+1) || (i+1 == len(used) || used[i+1] != at+m.size) && c.Has(at+m.size) {
				t.Fatalf("cache %d: Has() at and beside the place at %d", k, at)
			}
		}
	}
	w.sameBlocks(t)
}

func (w *world) sameBlocks(t *testing.T) {
	t.Helper()
	if got, want := w.blocks.Free(), w.like.Free(); !slices.Equal(got, want) {
		t.Fatalf("free blocks are %v, not %v", got, want)
	}
	if got, want := w.blocks.Used(), w.like.Used(); !slices.Equal(got, want) {
		t.Fatalf("used blocks are %v, not %v", got, want)
	}
}

// apart fails unless all places lie in slabs of their own caches, behind the heads, and none lies in another one; each slab is a used block of the order 0, and no two caches' at once.
func (w *world) apart(t *testing.T) {
	t.Helper()
	whose := map[int]int{}
	for k, c := range w.caches {
		slabs := c.Slabs()
		for _, at := range slabs {
			if _, ok := whose[at]; ok || w.blocks.Order(at) != 0 || at%1024 != 0 || at < 0 || at >= w.size {
				t.Fatalf("cache %d has a slab at %d, a block of the order %d", k, at, w.blocks.Order(at))
			}
			whose[at] = k
		}
		end := 0
		filled := map[int]int{}
		for _, at := range c.Used() {
			first, last := at-at%1024, at+c.Size()-1
			if k2, ok := whose[first]; !ok || k2 != k || last-last%1024 != first || at-first < slab.Head || at < end {
				t.Fatalf("cache %d has a place at %d, behind one that ends at %d", k, at, end)
			}
			end = last + 1
			filled[first]++
		}
		for _, at := range slabs {
			if filled[at] < 1 || filled[at] > c.Many() {
				t.Fatalf("cache %d has a slab at %d with %d used places of %d", k, at, filled[at], c.Many())
			}
		}
	}
}

// take takes a place of both, and fails unless they answer the same.
func (w *world) take(t *testing.T, k int) (int, api.Errno) {
	t.Helper()
	at, e := w.caches[k].Take()
	wantAt, wantE := w.models[k].take()
	if at != wantAt || e != wantE {
		t.Fatalf("cache %d: Take() = %d, %d, not %d, %d", k, at, e, wantAt, wantE)
	}
	return at, e
}

// give gives a place of both back, and fails unless they answer the same.
func (w *world) give(t *testing.T, k, at int) api.Errno {
	t.Helper()
	e := w.caches[k].Give(at)
	if want := w.models[k].give(at); e != want {
		t.Fatalf("cache %d: Give(%d) = %d, not %d", k, at, e, want)
	}
	return e
}

// block and unblock are what others do to the allocator.
func (w *world) block(t *testing.T, order int) (int, api.Errno) {
	t.Helper()
	at, e := w.blocks.Take(order)
	if wantAt, wantE := w.like.Take(order); at != wantAt || e != wantE {
		t.Fatalf("a block of the order %d: %d, %d, not %d, %d", order, at, e, wantAt, wantE)
	}
	return at, e
}

func (w *world) unblock(t *testing.T, at int) {
	t.Helper()
	if e, want := w.blocks.Give(at), w.like.Give(at); e != api.OK || want != api.OK {
		t.Fatalf("the block at %d: %d, and %d", at, e, want)
	}
}

// fill takes places of a cache until there is no block.
func (w *world) fill(t *testing.T, k int) []int {
	t.Helper()
	var l []int
	for {
		at, e := w.take(t, k)
		if e != api.OK {
			return l
		}
		l = append(l, at)
	}
}

// takes fails unless places begin at these addresses, one behind the other.
func takes(t *testing.T, c *slab.Cache, l ...int) {
	t.Helper()
	for i, want := range l {
		if at, e := c.Take(); at != want || e != api.OK {
			t.Fatalf("case %d: Take() = %d, %d, not %d", i, at, e, want)
		}
	}
}

// gives fails unless used places begin at all these addresses.
func gives(t *testing.T, c *slab.Cache, l ...int) {
	t.Helper()
	for _, at := range l {
		if e := c.Give(at); e != api.OK {
			t.Fatalf("Give(%d) = %d", at, e)
		}
	}
}

// told fails unless these are the cache's slabs, and these its used places.
func told(t *testing.T, c *slab.Cache, slabs, used []int) {
	t.Helper()
	if !slices.Equal(c.Slabs(), slabs) || !slices.Equal(c.Used(), used) {
		t.Fatalf("Slabs() = %v, not %v; Used() = %v, not %v", c.Slabs(), slabs, c.Used(), used)
	}
}

// sizes are all that a cache may have.
func sizes() []int {
	var l []int
	for n := 16; n <= 512; n += 16 {
		l = append(l, n)
	}
	return l
}

// whole fails unless the allocator is one free block.
func whole(t *testing.T, b *buddy.Buddy, order int) {
	t.Helper()
	if l := b.Free(); !slices.Equal(l, []api.Block{{At: 0, Order: order}}) || len(b.Used()) != 0 {
		t.Fatalf("free blocks are %v, used ones %v", l, b.Used())
	}
}

// The chapter's examples.
func TestExamples(t *testing.T) {
	c := slab.New(buddy.New(65536), 64)
	if c.Many() != 15 {
		t.Errorf("Many() = %d, not 15", c.Many())
	}
	takes(t, c, 64)
	told(t, c, []int{0}, []int{64})
}

// P4.1: a head has 64 bytes.
func TestHead(t *testing.T) {
	if slab.Head != 64 {
		t.Errorf("Head = %d", slab.Head)
	}
}

// P4.1: a cache of each size: its size, how many places a slab has; at first it has nothing, and took nothing.
func TestNewOfEachSize(t *testing.T) {
	b := buddy.New(65536)
	for _, n := range sizes() {
		c := slab.New(b, n)
		if c == nil {
			t.Fatalf("New(b, %d) is nil", n)
		}
		if c.Size() != n || c.Many() != 960/n {
			t.Errorf("New(b, %d): Size() = %d, Many() = %d", n, c.Size(), c.Many())
		}
		if len(c.Used()) != 0 || len(c.Slabs()) != 0 || c.Has(64) || c.Give(64) != api.ErrNone {
			t.Errorf("New(b, %d): Used %v, Slabs %v, Has(64) %t", n, c.Used(), c.Slabs(), c.Has(64))
		}
	}
	whole(t, b, 6)
	for _, x := range [][2]int{{16, 60}, {32, 30}, {48, 20}, {64, 15}, {80, 12}, {112, 8}, {128, 7}, {240, 4}, {256, 3}, {320, 3}, {336, 2}, {480, 2}, {496, 1}, {512, 1}} {
		if got := slab.New(b, x[0]).Many(); got != x[1] {
			t.Errorf("New(b, %d).Many() = %d, not %d", x[0], got, x[1])
		}
	}
}

// P4.1: New is nil of another size, and takes nothing.
func TestNewOfAnotherSizeIsNil(t *testing.T) {
	b := buddy.New(65536)
	for n := -1100; n <= 2200; n++ {
		if right := n >= 16 && n <= 512 && n%16 == 0; (slab.New(b, n) != nil) != right {
			t.Errorf("New(b, %d) != nil is %t", n, !right)
		}
	}
	for _, n := range []int{math.MinInt, math.MinInt + 16, -1 << 32, 1<<32 + 64, 1 << 32, 1 << 40, 1 << 62, math.MaxInt - 15, math.MaxInt} {
		if slab.New(b, n) != nil {
			t.Errorf("New(b, %d) isn't nil", n)
		}
	}
	whole(t, b, 6)
}

// P4.1: New is nil of a nil allocator, of a right size and of a wrong one.
func TestNewOverNilIsNil(t *testing.T) {
	for _, n := range append(sizes(), -16, 0, 1, 15, 17, 24, 528, math.MinInt, math.MaxInt) {
		if slab.New(nil, n) != nil || slab.New(buddy.New(1000), n) != nil {
			t.Errorf("New(nil, %d) isn't nil", n)
		}
	}
}

// P4.1: places of one slab lie one behind the other; a slab that is full is followed by a new one.
func TestTakeOfEachSize(t *testing.T) {
	for _, n := range sizes() {
		b := buddy.New(65536)
		c := slab.New(b, n)
		var slabs, used []int
		for page := 0; page < 4096; page += 1024 {
			slabs = append(slabs, page)
			for i := range 960 / n {
				used = append(used, page+64+i*n)
				takes(t, c, page+64+i*n)
				told(t, c, slabs, used)
			}
		}
		if want := []api.Block{{At: 0}, {At: 1024}, {At: 2048}, {At: 3072}}; !slices.Equal(b.Used(), want) {
			t.Errorf("size %d: used blocks are %v", n, b.Used())
		}
	}
}

// P4.1: of a slab, its first free place is taken, in whichever order places were given back.
func TestTakeOfTheFirstFreePlace(t *testing.T) {
	for _, back := range [][]int{{64, 192, 320, 704}, {704, 320, 192, 64}, {320, 64, 704, 192}, {192, 704, 64, 320}} {
		c := slab.New(buddy.New(65536), 128)
		takes(t, c, 64, 192, 320, 448, 576, 704, 832)
		gives(t, c, back...)
		told(t, c, []int{0}, []int{448, 576, 832})
		takes(t, c, 64, 192, 320, 704, 1088)
		told(t, c, []int{0, 1024}, []int{64, 192, 320, 448, 576, 704, 832, 1088})
	}
}

// P4.1: of several slabs with a free place, the one of the lowest address goes first, though another one has more of them, or an earlier place.
func TestTakeOfTheLowestSlab(t *testing.T) {
	for _, back := range [][]int{{3136, 3376, 2352, 1568, 1088, 784}, {784, 1088, 1568, 2352, 3376, 3136}, {1568, 3136, 784, 2352, 1088, 3376}, {2352, 784, 3376, 1088, 3136, 1568}} {
		c := slab.New(buddy.New(65536), 240)
		for page := 0; page < 4096; page += 1024 {
			takes(t, c, page+64, page+304, page+544, page+784)
		}
		gives(t, c, back...)
		takes(t, c, 784, 1088, 1568, 2352)
		gives(t, c, 304)
		takes(t, c, 304, 3136, 3376, 4160)
	}
}

// P4.1: a new slab may lie below older ones, where others gave a block back; it goes first then.
func TestNewSlabBelowOlderOnes(t *testing.T) {
	b := buddy.New(65536)
	for range 4 {
		b.Take(0)
	}
	c := slab.New(b, 448)
	takes(t, c, 4096+64, 4096+512, 5120+64, 5120+512)
	b.Give(2048)
	takes(t, c, 2048+64)
	told(t, c, []int{2048, 4096, 5120}, []int{2112, 4160, 4608, 5184, 5632})
	gives(t, c, 5632, 4160)
	takes(t, c, 2048+512, 4096+64)
	b.Give(0)
	takes(t, c, 5120+512, 64)
	told(t, c, []int{0, 2048, 4096, 5120}, []int{64, 2112, 2560, 4160, 4608, 5184, 5632})
	gives(t, c, 2112, 2560)
	told(t, c, []int{0, 4096, 5120}, []int{64, 4160, 4608, 5184, 5632})
	takes(t, c, 512, 2112)
}

// P4.1: a slab with a free place is used though the allocator has nothing left; without one it is ErrMemory, which turns nothing, until a block is given back.
func TestNoBlockLeft(t *testing.T) {
	w := made(t, 65536, 208)
	for _, order := range []int{5, 4, 3, 2, 1} {
		w.block(t, order)
	}
	w.take(t, 0)
	other, _ := w.block(t, 0)
	for range 3 {
		if _, e := w.take(t, 0); e != api.OK {
			t.Fatalf("Take() of a slab with free places = %d", e)
		}
	}
	for range 3 {
		if at, e := w.take(t, 0); at != 0 || e != api.ErrMemory {
			t.Fatalf("Take() without a block = %d, %d, not 0, ErrMemory", at, e)
		}
		w.same(t)
	}
	w.unblock(t, other)
	if at, e := w.take(t, 0); at != other+64 || e != api.OK {
		t.Fatalf("Take() = %d, %d, not %d", at, e, other+64)
	}
	w.same(t)
	w.apart(t)
}

// P4.1: with no block at all, a cache without a slab is ErrMemory, and stays without one.
func TestNoBlockAtFirst(t *testing.T) {
	w := made(t, 65536, 16, 512)
	w.block(t, 6)
	for k := range 2 {
		if at, e := w.take(t, k); at != 0 || e != api.ErrMemory {
			t.Fatalf("Take() = %d, %d, not 0, ErrMemory", at, e)
		}
		w.same(t)
	}
	w.unblock(t, 0)
	w.take(t, 1)
	w.take(t, 0)
	w.same(t)
	told(t, w.caches[0], []int{1024}, []int{1088})
	told(t, w.caches[1], []int{0}, []int{64})
}

// P4.1: in a full arena, a place that another cache gave back helps only where its slab went back.
func TestFullUntilAnotherCacheGives(t *testing.T) {
	w := made(t, 65536, 480, 64)
	l := w.fill(t, 0)
	if len(l) != 128 {
		t.Fatalf("%d places of 480 bytes, not 128", len(l))
	}
	w.same(t)
	w.give(t, 0, 5120+64)
	if _, e := w.take(t, 1); e != api.ErrMemory {
		t.Fatalf("Take() = %d, not ErrMemory", e)
	}
	w.give(t, 0, 5120+544)
	if at, e := w.take(t, 1); at != 5120+64 || e != api.OK {
		t.Fatalf("Take() = %d, %d, not 5184", at, e)
	}
	if _, e := w.take(t, 0); e != api.ErrMemory {
		t.Fatalf("Take() = %d, not ErrMemory", e)
	}
	w.same(t)
	w.apart(t)
}

// P4.1: a place given back twice is ErrNone, whether its slab stays or went back.
func TestGiveTwice(t *testing.T) {
	for _, n := range []int{16, 64, 320, 480, 496, 512} {
		w := made(t, 65536, n)
		var l []int
		for range 2*(960/n) + 1 {
			at, _ := w.take(t, 0)
			l = append(l, at)
		}
		var s steps = 5
		for _, at := range s.mix(l) {
			if e := w.give(t, 0, at); e != api.OK {
				t.Fatalf("Give(%d) = %d", at, e)
			}
			w.same(t)
			for range 2 {
				if e := w.give(t, 0, at); e != api.ErrNone || w.caches[0].Has(at) {
					t.Fatalf("Give(%d) again = %d, Has() = %t", at, e, w.caches[0].Has(at))
				}
			}
			w.same(t)
		}
		whole(t, w.blocks, 6)
	}
}

// P4.1, P4.2: where no used place begins, Give is ErrNone, Has is false, and nothing turns: within a place, in a head, at a free place, behind the last place, in another cache's slab, in others' blocks, below 0, beyond the size.
func TestGiveOfNone(t *testing.T) {
	w := made(t, 65536, 256, 80, 512)
	for _, k := range []int{0, 1, 2, 0, 1, 0, 0, 2, 1} {
		w.take(t, k)
	}
	w.block(t, 1)
	w.give(t, 0, 320)
	used := [][]int{{64, 576, 3136}, {1088, 1168, 1248}, {2112, 4160}}
	for k, c := range w.caches {
		if !slices.Equal(c.Used(), used[k]) {
			t.Fatalf("cache %d: Used() = %v, not %v", k, c.Used(), used[k])
		}
		for at := -3000; at < 12000; at++ {
			if c.Has(at) != slices.Contains(used[k], at) {
				t.Fatalf("cache %d: Has(%d) = %t", k, at, c.Has(at))
			}
			if c.Has(at) {
				continue
			}
			if e := c.Give(at); e != api.ErrNone {
				t.Fatalf("cache %d: Give(%d) = %d, not ErrNone", k, at, e)
			}
		}
		for _, at := range []int{65535, 65536, 65600, 65536 + 320, 1 << 30, 1<<30 + 64, 1 << 32, 1<<32 + 64, 1<<62 + 64, math.MaxInt - 1023 + 64, math.MaxInt, math.MinInt, math.MinInt + 64, -1<<32 + 64} {
			if c.Has(at) || c.Give(at) != api.ErrNone {
				t.Fatalf("cache %d: Has(%d) = %t", k, at, c.Has(at))
			}
		}
		w.same(t)
	}
	w.apart(t)
}

// P4.1: bytes behind the last place that fits are none's, though they lie at a place's distance.
func TestGiveBehindTheLastPlace(t *testing.T) {
	for _, n := range sizes() {
		w := made(t, 65536, n)
		for range 2 * (960 / n) {
			w.take(t, 0)
		}
		for _, i := range []int{-1, 960 / n} {
			if at := 1024 + 64 + i*n; w.caches[0].Has(at) || w.give(t, 0, at) != api.ErrNone {
				t.Errorf("size %d: Has(%d) = %t", n, at, w.caches[0].Has(at))
			}
		}
		w.same(t)
	}
}

// P4.1: a slab of which the last used place is given back goes back to the allocator, at once, and only then.
func TestEmptySlabGoesBack(t *testing.T) {
	for _, n := range []int{16, 48, 128, 256, 480, 496, 512} {
		w := made(t, 65536, n)
		many := 960 / n
		for range 3 * many {
			w.take(t, 0)
		}
		for _, page := range []int{1024, 0, 2048} {
			for i := range many {
				if w.blocks.Order(page) != 0 || !slices.Contains(w.caches[0].Slabs(), page) {
					t.Fatalf("size %d: the slab at %d went back with %d places used", n, page, many-i)
				}
				w.give(t, 0, page+64+i*n)
				w.same(t)
			}
			if w.blocks.Order(page) != -1 || slices.Contains(w.caches[0].Slabs(), page) {
				t.Fatalf("size %d: the slab at %d didn't go back", n, page)
			}
		}
		whole(t, w.blocks, 6)
	}
}

// P4.1: a block that went back may be anyone's, and what was a place there is the cache's no more.
func TestBlockThatWentBack(t *testing.T) {
	w := made(t, 65536, 64, 64)
	w.take(t, 0)
	w.give(t, 0, 64)
	if at, _ := w.block(t, 0); at != 0 {
		t.Fatalf("the block is at %d, not at 0", at)
	}
	if w.caches[0].Has(64) || w.give(t, 0, 64) != api.ErrNone {
		t.Fatal("a place in another one's block is given back")
	}
	w.same(t)
	w.unblock(t, 0)
	w.take(t, 1)
	if w.caches[0].Has(64) || !w.caches[1].Has(64) || w.give(t, 0, 64) != api.ErrNone {
		t.Fatal("a place in another cache's slab is given back")
	}
	if at, _ := w.take(t, 0); at != 1088 {
		t.Fatalf("Take() = %d, not 1088", at)
	}
	w.same(t)
	w.apart(t)
}

// P4.3: all given back, in each order that there is, leave no slab, and the allocator as it was.
func TestAllGivenBackInEachOrder(t *testing.T) {
	for _, n := range []int{320, 480, 512} {
		first := made(t, 65536, n)
		var l []int
		for range 5 {
			at, _ := first.take(t, 0)
			l = append(l, at)
		}
		for _, back := range arrangements(l) {
			w := made(t, 65536, n)
			w.block(t, 1)
			before := w.blocks.Free()
			for range 5 {
				w.take(t, 0)
			}
			for _, at := range back {
				w.give(t, 0, 2048+at)
				w.same(t)
				w.apart(t)
			}
			told(t, w.caches[0], nil, nil)
			if !slices.Equal(w.blocks.Free(), before) || !slices.Equal(w.blocks.Used(), []api.Block{{At: 0, Order: 1}}) {
				t.Fatalf("size %d, given back by %v: free blocks are %v, not %v", n, back, w.blocks.Free(), before)
			}
		}
	}
}

// arrangements are all orders that a list's numbers can stand in.
func arrangements(l []int) [][]int {
	if len(l) == 0 {
		return [][]int{nil}
	}
	var all [][]int
	for i, x := range l {
		rest := slices.Delete(slices.Clone(l), i, i+1)
		for _, r := range arrangements(rest) {
			all = append(all, append([]int{x}, r...))
		}
	}
	return all
}

// P4.1, P4.3: of each size the whole arena is taken, and given back by rising, falling and mixed addresses.
func TestAllOfEachSize(t *testing.T) {
	var s steps = 11
	for _, n := range sizes() {
		for try := range 3 {
			w := made(t, 65536, n)
			l := w.fill(t, 0)
			if len(l) != 64*(960/n) || w.blocks.Left() != 0 || !slices.IsSorted(l) {
				t.Fatalf("size %d: %d places, %d bytes left", n, len(l), w.blocks.Left())
			}
			w.same(t)
			w.apart(t)
			switch try {
			case 0:
			case 1:
				slices.Reverse(l)
			default:
				l = s.mix(l)
			}
			for i, at := range l {
				w.give(t, 0, at)
				if i%16 == 0 {
					w.same(t)
					w.apart(t)
				}
			}
			w.same(t)
			told(t, w.caches[0], nil, nil)
			whole(t, w.blocks, 6)
		}
	}
}

// P4.3: two caches that fill one arena between them, one of which gives all back: what is left is the other one's.
func TestOneCacheGivesAllBack(t *testing.T) {
	w := made(t, 65536, 336, 96)
	for range 40 {
		w.take(t, 0)
		w.take(t, 1)
	}
	var s steps = 9
	for _, at := range s.mix(w.caches[0].Used()) {
		w.give(t, 0, at)
		w.same(t)
	}
	told(t, w.caches[0], nil, nil)
	if len(w.caches[1].Used()) != 40 || len(w.blocks.Used()) != len(w.caches[1].Slabs()) {
		t.Fatalf("used blocks are %v, slabs %v", w.blocks.Used(), w.caches[1].Slabs())
	}
	w.apart(t)
	for _, at := range w.caches[1].Used() {
		w.give(t, 1, at)
	}
	whole(t, w.blocks, 6)
}

// P4.1, P4.2, P4.3: long rows of takes and gives of several caches, right and wrong, with others at the allocator, are the models' at each step.
func TestLikeTheModel(t *testing.T) {
	for seed := range steps(12) {
		s := seed
		size := []int{1 << 16, 1 << 17, 1 << 20}[seed%3]
		kinds := [][]int{{64, 128, 256, 32, 32, 48, 256}, {16, 512, 496, 480}, {320, 336, 208}, {512}}[seed%4]
		w := made(t, size, kinds...)
		var others []int
		for step := range 1500 {
			k := s.next(len(kinds))
			// Phases in which more is taken, and others in which more is given back.
			taking := 9 - 5*(step/250%2)
			switch x := s.next(16); {
			case x < taking:
				for range 1 + s.next(4) {
					w.take(t, k)
				}
			case x < 13:
				for range 1 + s.next(4) {
					if l := w.models[k].used(); len(l) > 0 {
						w.give(t, k, l[s.next(len(l))])
					}
				}
			case x == 13:
				w.give(t, k, s.next(size/16+20)*16-160)
			case x == 14:
				if at, e := w.block(t, min(s.next(5), s.next(5))); e == api.OK {
					others = append(others, at)
				}
			case len(others) > 0:
				i := s.next(len(others))
				w.unblock(t, others[i])
				others = slices.Delete(others, i, i+1)
			}
			w.same(t)
			w.apart(t)
		}
		for k, m := range w.models {
			for _, at := range s.mix(m.used()) {
				w.give(t, k, at)
			}
			told(t, w.caches[k], nil, nil)
		}
		for _, at := range others {
			w.unblock(t, at)
		}
		w.same(t)
		if len(w.blocks.Used()) != 0 || len(w.blocks.Free()) != 1 {
			t.Fatalf("free blocks are %v, used ones %v", w.blocks.Free(), w.blocks.Used())
		}
	}
}

// P4.1: the lowest slab with a free place is found among many of which some are full, and some went back.
func TestManySlabs(t *testing.T) {
	const pages = 4096
	b := buddy.New(pages * 1024)
	c := slab.New(b, 480)
	for page := range pages {
		takes(t, c, page*1024+64, page*1024+544)
	}
	var all []int
	for page := range pages {
		all = append(all, page)
	}
	var s steps = 21
	mixed := s.mix(all)
	half, gone := mixed[:pages/2], mixed[:pages/4]
	for _, page := range half {
		gives(t, c, page*1024+544)
	}
	for _, page := range gone {
		gives(t, c, page*1024+64)
	}
	if len(c.Slabs()) != pages-len(gone) || b.Left() != len(gone)*1024 {
		t.Fatalf("%d slabs, %d bytes left", len(c.Slabs()), b.Left())
	}
	rest := slices.Sorted(slices.Values(half[len(gone):]))
	for _, page := range rest {
		takes(t, c, page*1024+544)
	}
	for range gone {
		at, e := c.Take()
		if e != api.OK || at%1024 != 64 {
			t.Fatalf("Take() = %d, %d", at, e)
		}
		takes(t, c, at+480)
	}
	if at, e := c.Take(); at != 0 || e != api.ErrMemory {
		t.Fatalf("Take() = %d, %d, not 0, ErrMemory", at, e)
	}
	for _, page := range s.mix(all) {
		gives(t, c, page*1024+64, page*1024+544)
	}
	told(t, c, nil, nil)
	whole(t, b, 12)
}

// P4.1: the greatest allocator, at its last page.
func TestTheLastPageOfTheGreatest(t *testing.T) {
	b := buddy.New(api.GreatMem)
	for k := 19; k >= 0; k-- {
		b.Take(k)
	}
	last := api.GreatMem - 1024
	c := slab.New(b, 496)
	takes(t, c, last+64)
	told(t, c, []int{last}, []int{last + 64})
	if at, e := c.Take(); at != 0 || e != api.ErrMemory {
		t.Fatalf("Take() = %d, %d, not 0, ErrMemory", at, e)
	}
	for _, at := range []int{last, last + 560, api.GreatMem, api.GreatMem + 64, 64} {
		if c.Has(at) || c.Give(at) != api.ErrNone {
			t.Errorf("Has(%d) = %t", at, c.Has(at))
		}
	}
	gives(t, c, last+64)
	if !slices.Equal(b.Free(), []api.Block{{At: last, Order: 0}}) {
		t.Errorf("free blocks are %v", b.Free())
	}
}

// P4.2: the lists rise, whatever the order of takes and gives was, and of slabs that were made by falling addresses.
func TestListsRise(t *testing.T) {
	b := buddy.New(1 << 18)
	for range 256 {
		b.Take(0)
	}
	c := slab.New(b, 160)
	var s steps = 31
	var pages []int
	for page := 255; page >= 0; page -= 2 {
		pages = append(pages, page*1024)
	}
	for i, page := range append(pages[:40:40], s.mix(pages[40:])...) {
		b.Give(page)
		for range 6 {
			if at, e := c.Take(); at-at%1024 != page || e != api.OK {
				t.Fatalf("Take() = %d, %d, not on the page at %d", at, e, page)
			}
		}
		if l := c.Slabs(); len(l) != i+1 || !slices.IsSorted(l) {
			t.Fatalf("Slabs() = %v", l)
		}
		if l := c.Used(); len(l) != 6*(i+1) || !slices.IsSorted(l) {
			t.Fatalf("Used() = %v", l)
		}
	}
	for _, at := range s.mix(c.Used())[:400] {
		gives(t, c, at)
	}
	if l := c.Used(); len(l) != 6*128-400 || !slices.IsSorted(l) || !slices.IsSorted(c.Slabs()) {
		t.Errorf("Used() = %v, Slabs() = %v", l, c.Slabs())
	}
}

// P4.2: what Used and Slabs answer is new memory, its spare room included.
func TestListsAreNewMemory(t *testing.T) {
	w := made(t, 65536, 224)
	for range 19 {
		w.take(t, 0)
	}
	w.give(t, 0, 1024+288)
	c := w.caches[0]
	for range 2 {
		for _, list := range []func() []int{c.Used, c.Slabs} {
			kept := list()
			before := slices.Clone(kept)
			spoilt := list()
			spoilt = spoilt[:cap(spoilt)]
			for i := range spoilt {
				spoilt[i] = -7
			}
			if !slices.Equal(kept, before) {
				t.Fatalf("an earlier answer is %v, not %v", kept, before)
			}
			w.same(t)
		}
	}
	used, slabs := c.Used(), c.Slabs()
	wasUsed, wasSlabs := slices.Clone(used), slices.Clone(slabs)
	for _, at := range wasUsed[:6] {
		w.give(t, 0, at)
	}
	w.take(t, 0)
	if !slices.Equal(used, wasUsed) || !slices.Equal(slabs, wasSlabs) {
		t.Errorf("answers turned by later calls: %v, %v", used, slabs)
	}
	w.same(t)
}

// P4.2: what is asked turns nothing.
func TestAskingTurnsNothing(t *testing.T) {
	w := made(t, 65536, 400)
	for range 7 {
		w.take(t, 0)
		for range 3 {
			w.same(t)
		}
	}
	w.give(t, 0, 1088)
	for range 3 {
		w.same(t)
	}
	w.take(t, 0)
	w.same(t)
}

// P4.1: two caches of one size over one allocator, or over two, have nothing in common.
func TestCachesStandAlone(t *testing.T) {
	b := buddy.New(65536)
	x, y, z := slab.New(b, 64), slab.New(b, 64), slab.New(buddy.New(65536), 64)
	takes(t, x, 64)
	takes(t, y, 1088)
	takes(t, z, 64)
	takes(t, x, 128)
	told(t, x, []int{0}, []int{64, 128})
	told(t, y, []int{1024}, []int{1088})
	told(t, z, []int{0}, []int{64})
	if y.Give(64) != api.ErrNone || x.Give(1088) != api.ErrNone || z.Give(128) != api.ErrNone {
		t.Error("a place of another cache is given back")
	}
	gives(t, x, 64, 128)
	told(t, x, nil, nil)
	told(t, y, []int{1024}, []int{1088})
	told(t, z, []int{0}, []int{64})
}

// P4.1, P4.2: a nil cache answers ErrArg, 0, none, false.
func TestNilCache(t *testing.T) {
	var c *slab.Cache
	if at, e := c.Take(); at != 0 || e != api.ErrArg {
		t.Errorf("Take() = %d, %d, not 0, ErrArg", at, e)
	}
	for _, at := range []int{math.MinInt, -64, -1, 0, 1, 64, 1024, 65536, math.MaxInt} {
		if e := c.Give(at); e != api.ErrArg {
			t.Errorf("Give(%d) = %d, not ErrArg", at, e)
		}
		if c.Has(at) {
			t.Errorf("Has(%d) is true", at)
		}
	}
	if c.Size() != 0 || c.Many() != 0 || len(c.Used()) != 0 || len(c.Slabs()) != 0 {
		t.Errorf("Size %d, Many %d, Used %v, Slabs %v", c.Size(), c.Many(), c.Used(), c.Slabs())
	}
}
