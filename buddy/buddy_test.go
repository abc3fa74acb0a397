package buddy_test

import (
	"math"
	"slices"
	"testing"

	"quartermaster/api"
	"quartermaster/buddy"
)

// part is a block of the model.
type part struct {
	at, order int
	used      bool
}

func (p part) bytes() int { return api.Page << p.order }

// model is all blocks, free and used, one behind the other, gone through from the first to the last.
type model struct {
	size  int
	parts []part
}

func newModel(size int) *model {
	order := 0
	for api.Page<<order < size {
		order++
	}
	return &model{size: size, parts: []part{{order: order}}}
}

func (m *model) take(order int) (int, api.Errno) {
	if order < 0 || order > 40 || api.Page<<order > m.size {
		return 0, api.ErrArg
	}
	best := -1
	for i, p := range m.parts {
		if !p.used && p.order >= order && (best < 0 || p.order < m.parts[best].order) {
			best = i
		}
	}
	if best < 0 {
		return 0, api.ErrMemory
	}
	for m.parts[best].order > order {
		m.parts[best].order--
		low := m.parts[best]
		m.parts = slices.Insert(m.parts, best+1, part{at: low.at + low.bytes(), order: low.order})
	}
	m.parts[best].used = true
	return m.parts[best].at, api.OK
}

// give makes one of two free ones for as long as some two are buddies.
func (m *model) give(at int) api.Errno {
	i := slices.IndexFunc(m.parts, func(p part) bool { return p.used && p.at == at })
	if i < 0 {
		return api.ErrNone
	}
	m.parts[i].used = false
	for i := 0; i+1 < len(m.parts); {
		p, q := m.parts[i], m.parts[i+1]
		if !p.used && !q.used && p.order == q.order && p.at%(2*p.bytes()) == 0 {
			m.parts[i].order++
			m.parts = slices.Delete(m.parts, i+1, i+2)
			i = 0
			continue
		}
		i++
	}
	return api.OK
}

func (m *model) order(at int) int {
	for _, p := range m.parts {
		if p.used && p.at == at {
			return p.order
		}
	}
	return -1
}

func (m *model) blocks(used bool) []api.Block {
	var l []api.Block
	for _, p := range m.parts {
		if p.used == used {
			l = append(l, api.Block{At: p.at, Order: p.order})
		}
	}
	return l
}

func (m *model) left() int {
	n := 0
	for _, p := range m.parts {
		if !p.used {
			n += p.bytes()
		}
	}
	return n
}

func (m *model) greatest() int {
	k := -1
	for _, p := range m.parts {
		if !p.used {
			k = max(k, p.order)
		}
	}
	return k
}

// steps is a row of numbers that look like chance, and are the same at each run.
type steps uint64

func (s *steps) next(n int) int {
	*s = *s*6364136223846793005 + 1442695040888963407
	return int(*s>>33) % n
}

func (s *steps) mix(l []int) []int {
	l = slices.Clone(l)
	for i := range l {
		k := i + s.next(len(l)-i)
		l[i], l[k] = l[k], l[i]
	}
	return l
}

// made is an allocator, and the same as a model.
func made(t *testing.T, size int) (*buddy.Buddy, *model) {
	t.Helper()
	b := buddy.New(size)
	if b == nil {
		t.Fatalf("New(%d) is nil", size)
	}
	return b, newModel(size)
}

// same fails unless all that is told of the blocks is what the model has.
func same(t *testing.T, b *buddy.Buddy, m *model) {
	t.Helper()
	if got, want := b.Free(), m.blocks(false); !slices.Equal(got, want) {
		t.Fatalf("Free() = %v, not %v", got, want)
	}
	if got, want := b.Used(), m.blocks(true); !slices.Equal(got, want) {
		t.Fatalf("Used() = %v, not %v", got, want)
	}
	if b.Left() != m.left() || b.Greatest() != m.greatest() {
		t.Fatalf("Left() = %d, not %d; Greatest() = %d, not %d", b.Left(), m.left(), b.Greatest(), m.greatest())
	}
	for _, p := range m.parts {
		for _, at := range []int{p.at - 1, p.at, p.at + 1, p.at + p.bytes()/2, p.at + p.bytes()} {
			if got, want := b.Order(at), m.order(at); got != want {
				t.Fatalf("Order(%d) = %d, not %d", at, got, want)
			}
		}
	}
}

// covers fails unless free and used blocks lie side by side from the first byte to the last, at addresses that their bytes divide, and no two free ones are buddies.
func covers(t *testing.T, b *buddy.Buddy, size int) {
	t.Helper()
	free, used := b.Free(), b.Used()
	end, left := 0, 0
	for len(free)+len(used) > 0 {
		from := &free
		if len(free) == 0 || len(used) > 0 && used[0].At < free[0].At {
			from = &used
		}
		x := (*from)[0]
		*from = (*from)[1:]
		bytes := api.Page << x.Order
		if x.Order < 0 || x.At != end || x.At%bytes != 0 {
			t.Fatalf("the block %v stands behind the address %d", x, end)
		}
		end += bytes
		if from == &used {
			continue
		}
		left += bytes
		if slices.Contains(free, api.Block{At: x.At ^ bytes, Order: x.Order}) {
			t.Fatalf("the block %v and its buddy are both free", x)
		}
	}
	if end != size || left != b.Left() {
		t.Fatalf("the blocks end at %d of %d; %d bytes are free, Left() = %d", end, size, left, b.Left())
	}
}

// take takes a block of both, and fails unless they answer the same.
func take(t *testing.T, b *buddy.Buddy, m *model, order int) (int, api.Errno) {
	t.Helper()
	at, e := b.Take(order)
	wantAt, wantE := m.take(order)
	if at != wantAt || e != wantE {
		t.Fatalf("Take(%d) = %d, %d, not %d, %d", order, at, e, wantAt, wantE)
	}
	return at, e
}

// give gives a block of both back, and fails unless they answer the same.
func give(t *testing.T, b *buddy.Buddy, m *model, at int) api.Errno {
	t.Helper()
	e := b.Give(at)
	if want := m.give(at); e != want {
		t.Fatalf("Give(%d) = %d, not %d", at, e, want)
	}
	return e
}

// takes fails unless blocks of these orders begin at these addresses.
func takes(t *testing.T, b *buddy.Buddy, l ...[2]int) {
	t.Helper()
	for i, x := range l {
		if at, e := b.Take(x[0]); at != x[1] || e != api.OK {
			t.Fatalf("case %d: Take(%d) = %d, %d, not %d", i, x[0], at, e, x[1])
		}
	}
}

// gives fails unless used blocks begin at all these addresses.
func gives(t *testing.T, b *buddy.Buddy, l ...int) {
	t.Helper()
	for _, at := range l {
		if e := b.Give(at); e != api.OK {
			t.Fatalf("Give(%d) = %d", at, e)
		}
	}
}

func frees(t *testing.T, b *buddy.Buddy, want ...api.Block) {
	t.Helper()
	if got := b.Free(); !slices.Equal(got, want) {
		t.Fatalf("Free() = %v, not %v", got, want)
	}
}

// sizes are all that an arena may have, by the order of the whole.
func sizes() map[int]int {
	l := map[int]int{}
	for k := 6; k <= 20; k++ {
		l[k] = 1024 << k
	}
	return l
}

// P3.1, P3.2: at first there is one free block, the whole, of each size that an arena has.
func TestNewIsOneFreeBlock(t *testing.T) {
	for whole, size := range sizes() {
		b, m := made(t, size)
		frees(t, b, api.Block{At: 0, Order: whole})
		if len(b.Used()) != 0 || b.Left() != size || b.Greatest() != whole || b.Order(0) != -1 {
			t.Errorf("New(%d): Used %v, Left %d, Greatest %d, Order(0) %d", size, b.Used(), b.Left(), b.Greatest(), b.Order(0))
		}
		same(t, b, m)
		covers(t, b, size)
	}
}

// P3.1: New is nil of a size that no arena has.
func TestNewOfAnotherSizeIsNil(t *testing.T) {
	wrong := []int{math.MinInt, math.MinInt + 1, -api.GreatMem, -api.LeastMem, -1024, -1, 0, 1, 2, 1023, 1024, 32767, 32768,
		api.LeastMem - 1024, api.LeastMem - 1, api.LeastMem + 1, api.LeastMem + 1024, 3 * api.LeastMem / 2, 2*api.LeastMem - 1, 2*api.LeastMem + 1,
		3 << 16, 5 << 16, 1<<20 + 1<<16, 3 << 20, api.GreatMem - 1024, api.GreatMem - 1, api.GreatMem + 1, api.GreatMem + 1024,
		3 << 28, 3 << 29, 2 * api.GreatMem, 1 << 32, 1<<32 + api.LeastMem, 1 << 40, 1 << 62, math.MaxInt - 1, math.MaxInt}
	for _, size := range wrong {
		if buddy.New(size) != nil {
			t.Errorf("New(%d) isn't nil", size)
		}
	}
}

// The chapter's examples.
func TestExamples(t *testing.T) {
	b, _ := made(t, 65536)
	takes(t, b, [2]int{0, 0}, [2]int{0, 1024}, [2]int{1, 2048})
}

// P3.1: of a block that is split, the lower half goes on, and the upper one of each order is free.
func TestTakeSplits(t *testing.T) {
	for whole, size := range sizes() {
		for order := range whole + 1 {
			b, m := made(t, size)
			takes(t, b, [2]int{order, 0})
			m.take(order)
			var want []api.Block
			for k := order; k < whole; k++ {
				want = append(want, api.Block{At: 1024 << k, Order: k})
			}
			frees(t, b, want...)
			if got := b.Used(); !slices.Equal(got, []api.Block{{At: 0, Order: order}}) {
				t.Fatalf("Used() = %v", got)
			}
			if b.Order(0) != order || b.Left() != size-1024<<order {
				t.Fatalf("Order(0) = %d, Left() = %d of %d", b.Order(0), b.Left(), size)
			}
			same(t, b, m)
			covers(t, b, size)
			gives(t, b, 0)
			frees(t, b, api.Block{At: 0, Order: whole})
		}
	}
}

// P3.1: an order below 0, or above the whole's, is ErrArg, and turns nothing.
func TestTakeOfAWrongOrder(t *testing.T) {
	for whole, size := range sizes() {
		b, m := made(t, size)
		for _, order := range []int{0, 3, 1} {
			take(t, b, m, order)
		}
		for _, order := range []int{-1, -2, -63, -64, math.MinInt, whole + 1, whole + 2, 20 + 1, 22, 31, 32, 53, 54, 63, 64, 65, 1 << 32, math.MaxInt} {
			if at, e := b.Take(order); at != 0 || e != api.ErrArg {
				t.Errorf("Take(%d) of %d = %d, %d, not 0, ErrArg", order, size, at, e)
			}
		}
		same(t, b, m)
	}
}

// P3.1: the whole is taken, and then nothing is left, of whichever order; a wrong order stays ErrArg.
func TestTakeOfTheWhole(t *testing.T) {
	for whole, size := range sizes() {
		b, m := made(t, size)
		if at, e := take(t, b, m, whole); at != 0 || e != api.OK {
			t.Fatalf("Take(%d) = %d, %d", whole, at, e)
		}
		for order := range whole + 1 {
			if at, e := b.Take(order); at != 0 || e != api.ErrMemory {
				t.Errorf("Take(%d) = %d, %d, not 0, ErrMemory", order, at, e)
			}
		}
		for _, order := range []int{-1, whole + 1} {
			if at, e := b.Take(order); at != 0 || e != api.ErrArg {
				t.Errorf("Take(%d) = %d, %d, not 0, ErrArg", order, at, e)
			}
		}
		if b.Greatest() != -1 || b.Left() != 0 || len(b.Free()) != 0 || b.Order(0) != whole {
			t.Errorf("Greatest %d, Left %d, Free %v, Order(0) %d", b.Greatest(), b.Left(), b.Free(), b.Order(0))
		}
		same(t, b, m)
		gives(t, b, 0)
		frees(t, b, api.Block{At: 0, Order: whole})
	}
}

// P3.1: blocks of one order come by rising addresses until there is none, and the next one is ErrMemory, and turns nothing.
func TestTakeUntilNoneIsLeft(t *testing.T) {
	const size = 1 << 17
	for order := range 8 {
		b, m := made(t, size)
		bytes := 1024 << order
		for i := range size / bytes {
			takes(t, b, [2]int{order, i * bytes})
			m.take(order)
			same(t, b, m)
		}
		for range 2 {
			if at, e := b.Take(order); at != 0 || e != api.ErrMemory {
				t.Fatalf("Take(%d) = %d, %d, not 0, ErrMemory", order, at, e)
			}
			same(t, b, m)
		}
	}
}

// P3.1: enough bytes that are in no one block are ErrMemory.
func TestTakeOfMoreThanTheGreatest(t *testing.T) {
	b, m := made(t, 65536)
	for range 64 {
		take(t, b, m, 0)
	}
	for at := 0; at < 65536; at += 2048 {
		give(t, b, m, at)
	}
	if b.Left() != 32768 || b.Greatest() != 0 {
		t.Fatalf("Left() = %d, Greatest() = %d", b.Left(), b.Greatest())
	}
	for order := 1; order <= 6; order++ {
		if at, e := b.Take(order); at != 0 || e != api.ErrMemory {
			t.Errorf("Take(%d) = %d, %d, not 0, ErrMemory", order, at, e)
		}
	}
	same(t, b, m)
	covers(t, b, 65536)
}

// P3.1: a block of the least order that does goes first, though a greater one lies lower.
func TestTakeOfTheLeastOrder(t *testing.T) {
	b, _ := made(t, 65536)
	takes(t, b, [2]int{3, 0}, [2]int{0, 8192}, [2]int{0, 9216}, [2]int{1, 10240}, [2]int{2, 12288}, [2]int{4, 16384}, [2]int{5, 32768})
	gives(t, b, 0, 9216, 12288)
	frees(t, b, api.Block{At: 0, Order: 3}, api.Block{At: 9216, Order: 0}, api.Block{At: 12288, Order: 2})
	takes(t, b, [2]int{0, 9216}, [2]int{0, 12288}, [2]int{1, 14336}, [2]int{2, 0}, [2]int{1, 4096}, [2]int{0, 13312}, [2]int{0, 6144}, [2]int{0, 7168})
	frees(t, b)
}

// P3.1: of several of the least order, the one of the lowest address goes first, in whichever order they became free.
func TestTakeOfTheLowestAddress(t *testing.T) {
	for order := range 4 {
		bytes := 1024 << order
		for _, back := range [][]int{{0, 2, 4, 6}, {6, 4, 2, 0}, {4, 0, 6, 2}, {2, 6, 0, 4}} {
			b, _ := made(t, 65536)
			for i := range 65536 / bytes {
				takes(t, b, [2]int{order, i * bytes})
			}
			for _, i := range back {
				gives(t, b, i*bytes)
			}
			takes(t, b, [2]int{order, 0}, [2]int{order, 2 * bytes}, [2]int{order, 4 * bytes}, [2]int{order, 6 * bytes})
		}
	}
}

// P3.1: so it is of blocks that are split: the lowest of the least order that does.
func TestTakeSplitsTheLowest(t *testing.T) {
	b, m := made(t, 65536)
	for range 16 {
		take(t, b, m, 2)
	}
	for _, at := range []int{57344, 61440, 40960, 12288, 24576} {
		give(t, b, m, at)
	}
	frees(t, b, api.Block{At: 12288, Order: 2}, api.Block{At: 24576, Order: 2}, api.Block{At: 40960, Order: 2}, api.Block{At: 57344, Order: 3})
	takes(t, b, [2]int{1, 12288}, [2]int{0, 14336}, [2]int{0, 15360}, [2]int{0, 24576}, [2]int{1, 26624}, [2]int{2, 40960}, [2]int{2, 57344})
	frees(t, b, api.Block{At: 25600, Order: 0}, api.Block{At: 61440, Order: 2})
	covers(t, b, 65536)
}

// P3.1: where no used block begins, Give is ErrNone and turns nothing: within a block, at a free one, below 0, beyond the size.
func TestGiveOfNone(t *testing.T) {
	b, m := made(t, 65536)
	for _, order := range []int{1, 0, 3, 2} {
		take(t, b, m, order)
	}
	give(t, b, m, 8192)
	want := m.blocks(true)
	if !slices.Equal(want, []api.Block{{At: 0, Order: 1}, {At: 2048, Order: 0}, {At: 4096, Order: 2}}) {
		t.Fatalf("used are %v", want)
	}
	for _, at := range []int{1, 8, 1023, 1024, 2047, 2049, 3071, 3072, 4095, 4097, 5120, 6144, 7168, 8191, 8192, 16384, 32768,
		65535, 65536, 65537, 67584, 69632, 1 << 30, 1 << 32, 1<<32 + 2048, math.MaxInt, -1, -8, -1024, -2048, -65536, math.MinInt} {
		if e := b.Give(at); e != api.ErrNone {
			t.Errorf("Give(%d) = %d, not ErrNone", at, e)
		}
		if b.Order(at) != -1 {
			t.Errorf("Order(%d) = %d, not -1", at, b.Order(at))
		}
		same(t, b, m)
	}
}

// P3.1: of a new allocator nothing can be given back.
func TestGiveOfNothingTaken(t *testing.T) {
	b, m := made(t, 65536)
	for _, at := range []int{0, 1024, 32768, 65536, -1} {
		if e := b.Give(at); e != api.ErrNone {
			t.Errorf("Give(%d) = %d, not ErrNone", at, e)
		}
	}
	same(t, b, m)
}

// P3.1: a block that is given back twice is ErrNone, whether it stands alone or has become part of another one.
func TestGiveTwice(t *testing.T) {
	b, m := made(t, 65536)
	for range 4 {
		take(t, b, m, 0)
	}
	for _, at := range []int{1024, 3072, 2048, 0} {
		if e := give(t, b, m, at); e != api.OK {
			t.Fatalf("Give(%d) = %d", at, e)
		}
		same(t, b, m)
		if e := give(t, b, m, at); e != api.ErrNone {
			t.Fatalf("Give(%d) again = %d", at, e)
		}
		same(t, b, m)
	}
	frees(t, b, api.Block{At: 0, Order: 6})
}

// P3.1: a block goes by the order of its last take, and by no earlier one.
func TestOrderIsTheLastTakes(t *testing.T) {
	b, _ := made(t, 65536)
	for _, order := range []int{6, 0, 3, 5, 1, 4, 2} {
		takes(t, b, [2]int{order, 0})
		if b.Order(0) != order {
			t.Errorf("Order(0) = %d, not %d", b.Order(0), order)
		}
		gives(t, b, 0)
		if b.Order(0) != -1 {
			t.Errorf("Order(0) of a free block = %d", b.Order(0))
		}
		frees(t, b, api.Block{At: 0, Order: 6})
	}
}

// P3.1: buddies become one, several orders in a row.
func TestBuddiesBecomeOne(t *testing.T) {
	for whole, size := range sizes() {
		b, m := made(t, size)
		take(t, b, m, 0)
		for k := range whole {
			if at, e := take(t, b, m, k); at != 1024<<k || e != api.OK {
				t.Fatalf("Take(%d) = %d, %d", k, at, e)
			}
		}
		frees(t, b)
		for k := whole - 1; k > 0; k-- {
			give(t, b, m, 1024<<k)
		}
		same(t, b, m)
		give(t, b, m, 0)
		same(t, b, m)
		if b.Greatest() != whole-1 {
			t.Fatalf("Greatest() = %d of %d", b.Greatest(), whole)
		}
		give(t, b, m, 1024)
		frees(t, b, api.Block{At: 0, Order: whole})
		same(t, b, m)
	}
}

// P3.1: neighbours of one order that are no buddies stay two.
func TestNeighboursStayTwo(t *testing.T) {
	for order := range 5 {
		bytes := 1024 << order
		b, m := made(t, 65536)
		for range 65536 / bytes {
			take(t, b, m, order)
		}
		for _, i := range []int{1, 2} {
			give(t, b, m, i*bytes)
		}
		frees(t, b, api.Block{At: bytes, Order: order}, api.Block{At: 2 * bytes, Order: order})
		same(t, b, m)
		give(t, b, m, 0)
		frees(t, b, api.Block{At: 0, Order: order + 1}, api.Block{At: 2 * bytes, Order: order})
		give(t, b, m, 3*bytes)
		if got := b.Free()[0]; got != (api.Block{At: 0, Order: order + 2}) {
			t.Errorf("the first free block is %v", got)
		}
		same(t, b, m)
	}
}

// P3.1: buddies of which one is free in part alone stay two: the free half of a used buddy is of a lesser order.
func TestABuddyInPartStays(t *testing.T) {
	b, _ := made(t, 65536)
	takes(t, b, [2]int{1, 0}, [2]int{0, 2048}, [2]int{2, 4096}, [2]int{3, 8192}, [2]int{4, 16384}, [2]int{5, 32768})
	gives(t, b, 0)
	frees(t, b, api.Block{At: 0, Order: 1}, api.Block{At: 3072, Order: 0})
	gives(t, b, 4096)
	frees(t, b, api.Block{At: 0, Order: 1}, api.Block{At: 3072, Order: 0}, api.Block{At: 4096, Order: 2})
	gives(t, b, 2048)
	frees(t, b, api.Block{At: 0, Order: 3})
	covers(t, b, 65536)
}

// P3.3: all given back, in each order that there is, come to one free block.
func TestAllGivenBackInEachOrder(t *testing.T) {
	orders := []int{0, 1, 0, 3, 2, 4}
	var at []int
	first, _ := made(t, 65536)
	for _, order := range orders {
		x, e := first.Take(order)
		if e != api.OK {
			t.Fatalf("Take(%d) = %d", order, e)
		}
		at = append(at, x)
	}
	for _, l := range arrangements(at) {
		b, m := made(t, 65536)
		for _, order := range orders {
			take(t, b, m, order)
		}
		for _, x := range l {
			give(t, b, m, x)
			same(t, b, m)
			covers(t, b, 65536)
		}
		frees(t, b, api.Block{At: 0, Order: 6})
		if len(b.Used()) != 0 || b.Left() != 65536 || b.Greatest() != 6 {
			t.Fatalf("given back by %v: Used %v, Left %d, Greatest %d", l, b.Used(), b.Left(), b.Greatest())
		}
	}
}

// arrangements are all orders that a list's numbers can stand in.
func arrangements(l []int) [][]int {
	if len(l) == 0 {
		return [][]int{nil}
	}
	var all [][]int
	for i, x := range l {
		rest := slices.Delete(slices.Clone(l), i, i+1)
		for _, r := range arrangements(rest) {
			all = append(all, append([]int{x}, r...))
		}
	}
	return all
}

// P3.3: so it is of many blocks of several orders, by rising, falling and mixed addresses.
func TestAllGivenBackOfMany(t *testing.T) {
	const size = 1 << 18
	fill := func() (*buddy.Buddy, *model, []int) {
		b, m := made(t, size)
		var l []int
		for i := 0; ; i++ {
			at, e := take(t, b, m, []int{0, 2, 1, 0, 3, 0, 1}[i%7])
			if e != api.OK {
				return b, m, l
			}
			l = append(l, at)
		}
	}
	var s steps = 3
	for try := range 6 {
		b, m, l := fill()
		switch slices.Sort(l); try {
		case 0:
		case 1:
			slices.Reverse(l)
		default:
			l = s.mix(l)
		}
		for _, at := range l {
			give(t, b, m, at)
			same(t, b, m)
		}
		frees(t, b, api.Block{At: 0, Order: 8})
	}
}

// P3.1, P3.2, P3.3: long rows of takes and gives, right and wrong, are the model's at each step.
func TestLikeTheModel(t *testing.T) {
	for seed := range steps(12) {
		s := seed
		size := []int{1 << 16, 1 << 17, 1 << 18, 1 << 20, 1 << 25, 1 << 30}[seed%6]
		b, m := made(t, size)
		whole := b.Greatest()
		for range 1500 {
			l := m.blocks(true)
			switch k := s.next(20); {
			case k < 11:
				take(t, b, m, min(s.next(whole+1), s.next(whole+1), s.next(whole+1)))
			case k < 12:
				take(t, b, m, s.next(whole+5)-2)
			case k < 19 && len(l) > 0:
				give(t, b, m, l[s.next(len(l))].At)
			default:
				give(t, b, m, (s.next(130)-1)*512)
			}
			same(t, b, m)
			covers(t, b, size)
		}
		for _, x := range m.blocks(true) {
			give(t, b, m, x.At)
		}
		frees(t, b, api.Block{At: 0, Order: whole})
	}
}

// P3.1, P3.2: the greatest allocator, to its last page.
func TestTheGreatest(t *testing.T) {
	b, m := made(t, api.GreatMem)
	for k := 19; k >= 0; k-- {
		take(t, b, m, k)
	}
	last := api.GreatMem - 1024
	frees(t, b, api.Block{At: last, Order: 0})
	if b.Left() != 1024 || b.Greatest() != 0 || b.Order(0) != 19 || b.Order(api.GreatMem/2) != 18 {
		t.Errorf("Left %d, Greatest %d, Order(0) %d", b.Left(), b.Greatest(), b.Order(0))
	}
	takes(t, b, [2]int{0, last})
	if b.Order(last) != 0 || len(b.Used()) != 21 || b.Greatest() != -1 {
		t.Errorf("Order of the last page %d, Used %v", b.Order(last), b.Used())
	}
	gives(t, b, last)
	for _, x := range m.blocks(true) {
		give(t, b, m, x.At)
		same(t, b, m)
	}
	frees(t, b, api.Block{At: 0, Order: 20})
}

// P3.2: Order of each page and of each beginning, of a row of blocks.
func TestOrderOfEachPage(t *testing.T) {
	b, m := made(t, 65536)
	for _, order := range []int{2, 0, 1, 3, 0, 4, 1} {
		take(t, b, m, order)
	}
	for at := -2048; at < 65536+2048; at += 512 {
		if got, want := b.Order(at), m.order(at); got != want {
			t.Errorf("Order(%d) = %d, not %d", at, got, want)
		}
	}
	for _, at := range []int{math.MinInt, math.MaxInt, 1 << 32} {
		if b.Order(at) != -1 {
			t.Errorf("Order(%d) = %d, not -1", at, b.Order(at))
		}
	}
}

// P3.2: the lists rise by addresses, whatever the order of takes and gives was.
func TestListsRise(t *testing.T) {
	var s steps = 77
	b, m := made(t, 1<<20)
	for range 400 {
		take(t, b, m, s.next(3))
	}
	var at []int
	for _, x := range m.blocks(true) {
		at = append(at, x.At)
	}
	for _, x := range s.mix(at)[:200] {
		give(t, b, m, x)
	}
	rise := func(x, y api.Block) int { return x.At - y.At }
	if l := b.Free(); len(l) < 50 || !slices.IsSortedFunc(l, rise) {
		t.Errorf("Free() = %v", l)
	}
	if l := b.Used(); len(l) != 200 || !slices.IsSortedFunc(l, rise) {
		t.Errorf("Used() = %v", l)
	}
	same(t, b, m)
}

// P3.2: what Free and Used answer is new memory, its spare room included.
func TestListsAreNewMemory(t *testing.T) {
	b, m := made(t, 65536)
	for _, order := range []int{0, 2, 1, 0, 3} {
		take(t, b, m, order)
	}
	give(t, b, m, 4096)
	for range 2 {
		for _, list := range []func() []api.Block{b.Free, b.Used} {
			kept := list()
			before := slices.Clone(kept)
			spoilt := list()
			spoilt = spoilt[:cap(spoilt)]
			for i := range spoilt {
				spoilt[i] = api.Block{At: -7, Order: -7}
			}
			if !slices.Equal(kept, before) {
				t.Fatalf("an earlier answer is %v, not %v", kept, before)
			}
			same(t, b, m)
		}
	}
	free, used := b.Free(), b.Used()
	wasFree, wasUsed := slices.Clone(free), slices.Clone(used)
	give(t, b, m, 0)
	take(t, b, m, 4)
	if !slices.Equal(free, wasFree) || !slices.Equal(used, wasUsed) {
		t.Errorf("answers turned by later calls: %v, %v", free, used)
	}
}

// P3.2: what is asked turns nothing.
func TestAskingTurnsNothing(t *testing.T) {
	b, m := made(t, 65536)
	for _, order := range []int{1, 0, 2} {
		take(t, b, m, order)
		for range 3 {
			same(t, b, m)
		}
	}
	take(t, b, m, 0)
	same(t, b, m)
}

// P3.1: two allocators have nothing in common.
func TestAllocatorsStandAlone(t *testing.T) {
	a, ma := made(t, 65536)
	b, mb := made(t, 65536)
	take(t, a, ma, 0)
	take(t, b, mb, 3)
	take(t, a, ma, 2)
	same(t, a, ma)
	same(t, b, mb)
	give(t, b, mb, 0)
	same(t, a, ma)
	same(t, b, mb)
}

// P3.1, P3.2: a nil allocator answers ErrArg, -1, none, 0.
func TestNilAllocator(t *testing.T) {
	var b *buddy.Buddy
	for _, x := range []int{math.MinInt, -1, 0, 1, 6, 7, 20, 21, 1024, math.MaxInt} {
		if at, e := b.Take(x); at != 0 || e != api.ErrArg {
			t.Errorf("Take(%d) = %d, %d, not 0, ErrArg", x, at, e)
		}
		if e := b.Give(x); e != api.ErrArg {
			t.Errorf("Give(%d) = %d, not ErrArg", x, e)
		}
		if b.Order(x) != -1 {
			t.Errorf("Order(%d) = %d, not -1", x, b.Order(x))
		}
	}
	if len(b.Free()) != 0 || len(b.Used()) != 0 || b.Left() != 0 || b.Greatest() != -1 {
		t.Errorf("Free %v, Used %v, Left %d, Greatest %d", b.Free(), b.Used(), b.Left(), b.Greatest())
	}
}
