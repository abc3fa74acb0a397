package pool_test

import (
	"slices"
	"testing"

	"quartermaster/api"
)

// step does one step to both: most are right ones; those that others do to the tree and to the blocks are among them.
func (b *both) step(t *testing.T, s *steps) api.Errno {
	t.Helper()
	factory, class := s.next(len(b.accounts)), s.of(classes)
	if s.next(20) == 0 {
		factory, class = s.next(len(b.accounts)+3)-1, s.next(11)-1
	}
	switch x := s.next(20); {
	case x < 9:
		_, e := b.doGet(t, factory, class)
		return e
	case x < 16 && len(b.used) > 0:
		u := b.used[s.next(len(b.used))]
		return b.doPut(t, u.factory, u.class, u.at)
	case x == 16:
		return b.doPut(t, factory, class, s.next(b.size/16+20)*16-160)
	case x == 17:
		return b.doPut(t, factory, class, s.of(append(b.usedOf(class), 64)))
	case x == 18 && s.next(2) == 0:
		b.doFrame(t, min(s.next(6), s.next(6)))
	case x == 18 && len(b.frames) > b.stay:
		b.doUnframe(t, b.stay+s.next(len(b.frames)-b.stay))
	default:
		b.carveOrClose(t, s)
	}
	return api.OK
}

// carveOrClose carves a child, as long as there aren't many, or closes one to which nothing is charged.
func (b *both) carveOrClose(t *testing.T, s *steps) {
	t.Helper()
	id := s.next(len(b.accounts))
	if !b.has(id) {
		return
	}
	left := b.accounts[id].limit - b.use(id)
	switch {
	case s.next(2) == 0 && len(b.accounts) < 12:
		b.doCarve(t, id, s.next(left/3+1))
	case id > 0 && b.use(id) == 0 && !slices.ContainsFunc(b.accounts, func(a account) bool { return a.parent == id && !a.closed }):
		b.doClose(t, id)
	}
}

// charged is what is charged to all, and cost the cost of all that is used; told by the pool alone.
func (b *both) charged() (charged, cost int) {
	for _, id := range b.p.Quota().Ids() {
		charged += b.p.Quota().Charged(id)
	}
	for _, class := range classes {
		cost += len(b.p.Used(class)) * costOf(class)
	}
	return charged, cost
}

// apart fails unless used memory doesn't overlap, lies behind the heads of pages that are used blocks of the order 0, and no page is of two classes.
func (b *both) apart(t *testing.T) {
	t.Helper()
	whose := map[int]int{}
	for _, class := range classes {
		end := 0
		for _, at := range b.p.Used(class) {
			page, last := pageOf(at), at+costOf(class)-1
			if k, ok := whose[page]; ok && k != class || b.p.Blocks().Order(page) != 0 {
				t.Fatalf("memory of the class %d at %d is on a page of %d, a block of the order %d", class, at, k, b.p.Blocks().Order(page))
			}
			if at < end || at-page < 64 || pageOf(last) != page {
				t.Fatalf("memory of the class %d at %d, behind one that ends at %d", class, at, end)
			}
			whose[page] = class
			end = last + 1
		}
	}
}

// P6.1 to P6.3: long rows of mixed steps, right and wrong, of several factories, with others at the tree and at the blocks: at each step the answers are the model's, what is charged to all is the cost of all that is used, if all was put back for whom it was got, and used memory keeps its bytes.
func TestLikeTheModel(t *testing.T) {
	seen := map[api.Errno]int{}
	for seed := range steps(12) {
		s := seed
		limit := []int{65536, 65536, 20000, 3000}[seed%4]
		b := made(t, 65536, limit)
		if seed%4 == 1 {
			// Little memory is left, so that there is soon no block.
			for k := 5; k > 1; k-- {
				b.doFrame(t, k)
			}
			b.stay = len(b.frames)
		}
		for range 700 {
			seen[b.step(t, &s)]++
			b.same(t)
			b.apart(t)
			if charged, cost := b.charged(); charged != cost {
				t.Fatalf("%d are charged, and what is used costs %d", charged, cost)
			}
		}
	}
	for _, e := range []api.Errno{api.OK, api.ErrArg, api.ErrMemory, api.ErrQuota, api.ErrNone} {
		if seen[e] < 50 {
			t.Errorf("the error %d was told %d times only", e, seen[e])
		}
	}
}

// P6.3: all put back, in whichever order, the allocator is as it was, and nothing is charged; with and without blocks of others.
func TestAllPutBack(t *testing.T) {
	var s steps = 63
	for round := range 8 {
		b := made(t, 65536, 65536)
		b.doCarve(t, 0, 20000)
		b.doCarve(t, 1, 5000)
		for range round % 4 {
			b.doFrame(t, s.next(4))
		}
		was := b.p.Blocks().Free()
		for again := range 2 {
			for range 200 + 100*again {
				b.doGet(t, s.next(3), s.of(classes))
			}
			b.same(t)
			for i, x := range b.order(&s, round) {
				is(t, "Put", b.doPut(t, x.factory, x.class, x.at), api.OK)
				if i%10 == 0 {
					b.same(t)
					b.apart(t)
				}
			}
			b.same(t)
			if got := b.p.Blocks().Free(); !slices.Equal(got, was) {
				t.Fatalf("free blocks are %v, not %v", got, was)
			}
			uses(t, b.p, 20000, 5000, 0)
		}
	}
}

// order is what is used, in the order in which it was got, in the reverse one, by classes, or mixed.
func (b *both) order(s *steps, round int) []thing {
	l := slices.Clone(b.used)
	switch round / 2 {
	case 0:
	case 1:
		slices.Reverse(l)
	case 2:
		slices.SortStableFunc(l, func(x, y thing) int { return x.class - y.class })
	default:
		l = mixed(s, l)
	}
	return l
}

// P6.3: all that is got in a full arena, put back, leaves one free block, again and again.
func TestFullAndPutBack(t *testing.T) {
	var s steps = 64
	b := made(t, 65536, 65536)
	for range 6 {
		for e := api.OK; e != api.ErrMemory; {
			_, e = b.doGet(t, 0, s.of(classes))
		}
		b.same(t)
		b.apart(t)
		if charged, cost := b.charged(); charged != cost || b.p.Blocks().Left() != 0 {
			t.Fatalf("%d are charged, and what is used costs %d; %d bytes left", charged, cost, b.p.Blocks().Left())
		}
		b.doPutAll(t, &s)
		uses(t, b.p, 0)
		whole(t, b.p, 6)
	}
}

// P6.3: memory that is put back for another one than for whom it was got: all that is charged is still the cost of all that is used.
func TestPutForAnotherOne(t *testing.T) {
	var s steps = 65
	b := made(t, 65536, 65536)
	b.doCarve(t, 0, 8000)
	b.doCarve(t, 0, 8000)
	for range 60 {
		b.doGet(t, s.next(3), s.of(classes))
	}
	for len(b.used) > 0 {
		x := b.used[s.next(len(b.used))]
		b.doPut(t, s.next(3), x.class, x.at)
		b.same(t)
		if charged, cost := b.charged(); charged != cost {
			t.Fatalf("%d are charged, and what is used costs %d", charged, cost)
		}
		if b.stuck() {
			break
		}
	}
	b.same(t)
}

// stuck says whether nobody was charged enough for any of what is left.
func (b *both) stuck() bool {
	for _, x := range b.used {
		for _, a := range b.accounts {
			if a.charged >= costOf(x.class) {
				return false
			}
		}
	}
	return true
}
