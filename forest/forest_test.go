package forest_test

import (
	"math"
	"slices"
	"testing"

	"quartermaster/api"
	"quartermaster/forest"
)

// ids fails unless those are told.
func ids(t *testing.T, what string, got []int, want ...int) {
	t.Helper()
	if !slices.Equal(got, want) {
		t.Fatalf("%s = %v, not %v", what, got, want)
	}
}

// spots fails unless those are told.
func spots(t *testing.T, what string, got []api.Spot, want ...api.Spot) {
	t.Helper()
	if !slices.Equal(got, want) {
		t.Fatalf("%s = %v, not %v", what, got, want)
	}
}

// gone fails unless nothing is told of that number, and nothing can be done to it.
func gone(t *testing.T, b *both, id int, o api.Spot) {
	t.Helper()
	b.sameNode(t, id)
	if b.f.Find(o.Space, o.Slot) == id {
		t.Fatalf("%v has the node %d, which went", o, id)
	}
	if got, e := b.doAdd(t, id, api.Spot{Space: 77, Slot: 77}); got != 0 || e != api.ErrNone {
		t.Fatalf("Add(%d) = %d, %d", id, got, e)
	}
	spots(t, "Cut", b.doCut(t, id))
	spots(t, "Remove", b.doRemove(t, id))
	if e := b.doLift(t, id); e != api.ErrNone {
		t.Fatalf("Lift(%d) = %d", id, e)
	}
	b.same(t)
}

// The chapter's example: a root, a child, its child: Cut of the root: the child's child, then the child.
func TestExample(t *testing.T) {
	f := forest.New()
	f.Add(0, 1, 10)
	f.Add(1, 2, 20)
	f.Add(2, 3, 30)
	spots(t, "Cut(1)", f.Cut(1), api.Spot{Space: 3, Slot: 30}, api.Spot{Space: 2, Slot: 20})
	if f.Len() != 1 {
		t.Errorf("Len() = %d", f.Len())
	}
}

// P10.1: a new forest has nothing, whatever it is asked.
func TestNewIsEmpty(t *testing.T) {
	b := made(t)
	if b.f == nil || b.f.Len() != 0 {
		t.Fatalf("New() has %d nodes", b.f.Len())
	}
	for _, id := range slices.Concat(noParents, []int{1, 2, 3}) {
		gone(t, b, id, api.Spot{})
	}
}

// P10.1: numbers are 1, 2, and so on, of roots and of children alike.
func TestNumbersRise(t *testing.T) {
	b := made(t)
	for id := 1; id <= 100; id++ {
		parent := 0
		if id%3 != 0 {
			parent = id / 2
		}
		if got, e := b.doAdd(t, parent, own(id)); got != id || e != api.OK {
			t.Fatalf("Add = %d, %d, not %d", got, e, id)
		}
	}
	b.same(t)
}

// P10.1: a node of the parent 0 is a root: nobody's child, whose parent is 0, and others turn nothing in it.
func TestRoots(t *testing.T) {
	b := lay(t, 0, 0, 0)
	for id := 1; id <= 3; id++ {
		if b.f.Parent(id) != 0 || len(b.f.Kids(id)) != 0 || len(b.f.Below(id)) != 0 {
			t.Errorf("the root %d: Parent %d, Kids %v, Below %v", id, b.f.Parent(id), b.f.Kids(id), b.f.Below(id))
		}
	}
	ids(t, "Kids(0)", b.f.Kids(0))
	ids(t, "Below(0)", b.f.Below(0))
	spots(t, "Cut(0)", b.doCut(t, 0))
	spots(t, "Remove(0)", b.doRemove(t, 0))
	if e := b.doLift(t, 0); e != api.ErrNone {
		t.Errorf("Lift(0) = %d", e)
	}
	spots(t, "Remove(2)", b.doRemove(t, 2), own(2))
	b.same(t)
}

// P10.1: what there is no parent of isn't added, and uses up no number: a number that was never given, the next one, those below 0, far ones.
func TestAddOfNoSuchParent(t *testing.T) {
	for _, parents := range [][]int{nil, {0}, {0, 1, 1}} {
		b := lay(t, parents...)
		next := len(parents) + 1
		for _, parent := range slices.Concat(noParents, []int{next, next + 1, next + 2}) {
			if id, e := b.doAdd(t, parent, own(next)); id != 0 || e != api.ErrNone {
				t.Fatalf("Add(%d) = %d, %d", parent, id, e)
			}
		}
		b.same(t)
		if id, e := b.doAdd(t, 0, own(next)); id != next || e != api.OK {
			t.Fatalf("Add(0) = %d, %d, not %d", id, e, next)
		}
	}
}

// P10.1, P10.3: a parent that went is none: cut, removed with its own or alone, or lifted.
func TestAddOfAParentThatWent(t *testing.T) {
	for name, away := range map[string]func(*both){
		"cut":               func(b *both) { b.doCut(t, 1) },
		"removed":           func(b *both) { b.doRemove(t, 2) },
		"removed with more": func(b *both) { b.doRemove(t, 1) },
		"lifted":            func(b *both) { b.doLift(t, 2) },
	} {
		b := lay(t, 0, 1, 2, 0)
		away(b)
		if id, e := b.doAdd(t, 2, own(5)); id != 0 || e != api.ErrNone {
			t.Errorf("%s: Add(2) = %d, %d", name, id, e)
		}
		gone(t, b, 2, own(2))
	}
}

// P10.1: an owner that has a node gets no other one, as a root, beside it or below it, and no number is used up; a space and a slot are both looked at, whole, and in this order.
func TestAddOfAnOwnerThatHasANode(t *testing.T) {
	b := made(t)
	for i, o := range farOwners {
		if id, e := b.doAdd(t, 0, o); id != i+1 || e != api.OK {
			t.Fatalf("Add of %v = %d, %d, not %d", o, id, e, i+1)
		}
		b.same(t)
	}
	for i, o := range farOwners {
		for _, parent := range []int{0, i + 1, 1, len(farOwners)} {
			if id, e := b.doAdd(t, parent, o); id != 0 || e != api.ErrTwice {
				t.Fatalf("Add(%d) of %v = %d, %d", parent, o, id, e)
			}
		}
	}
	b.same(t)
	if id, e := b.doAdd(t, 3, own(1)); id != len(farOwners)+1 || e != api.OK {
		t.Fatalf("Add = %d, %d", id, e)
	}
}

// P10.1: of both errors the parent's is the answer, of a parent that never was and of one that went; with the parent mended it is the owner's, with both mended it is none.
func TestErrorsBesideEachOther(t *testing.T) {
	b := lay(t, 0, 1, 0)
	b.doRemove(t, 2)
	for _, parent := range slices.Concat(noParents, []int{2, 4, 5}) {
		if id, e := b.doAdd(t, parent, own(1)); id != 0 || e != api.ErrNone {
			t.Fatalf("Add(%d) of an owner that has a node = %d, %d", parent, id, e)
		}
	}
	for _, parent := range []int{0, 1, 3} {
		if id, e := b.doAdd(t, parent, own(1)); id != 0 || e != api.ErrTwice {
			t.Fatalf("Add(%d) of an owner that has a node = %d, %d", parent, id, e)
		}
	}
	if id, e := b.doAdd(t, 2, own(2)); id != 0 || e != api.ErrNone {
		t.Fatalf("Add(2) of an owner without a node = %d, %d", id, e)
	}
	b.same(t)
	if id, e := b.doAdd(t, 1, own(2)); id != 4 || e != api.OK {
		t.Fatalf("Add(1) = %d, %d, not 4", id, e)
	}
	b.same(t)
}

// P10.1, P10.3: an owner whose node went has none, and gets another one, of a new number, whichever way the first one went.
func TestAnOwnerGetsAnother(t *testing.T) {
	for name, away := range map[string]func(*both){
		"cut":               func(b *both) { b.doCut(t, 1) },
		"cut from above":    func(b *both) { b.doCut(t, 2); b.doCut(t, 1) },
		"removed":           func(b *both) { b.doRemove(t, 3) },
		"removed with more": func(b *both) { b.doRemove(t, 2) },
		"lifted":            func(b *both) { b.doLift(t, 3) },
	} {
		b := lay(t, 0, 1, 2, 3)
		away(b)
		if got := b.f.Find(own(3).Space, own(3).Slot); got != 0 {
			t.Fatalf("%s: Find = %d", name, got)
		}
		for n := range 4 {
			if id, e := b.doAdd(t, 1, own(3)); id != 5+n || e != api.OK {
				t.Fatalf("%s: Add = %d, %d, not %d", name, id, e, 5+n)
			}
			if got := b.f.Find(own(3).Space, own(3).Slot); got != 5+n {
				t.Fatalf("%s: Find = %d, not %d", name, got, 5+n)
			}
			b.same(t)
			b.doRemove(t, 5+n)
			gone(t, b, 3, own(3))
		}
	}
}

// P10.1: a number is never given twice: not when the last one went, not when all went, whichever way.
func TestNumbersAreGivenOnce(t *testing.T) {
	b := made(t)
	last := 0
	for round := range 300 {
		id, e := b.doAdd(t, 0, own(0))
		if id != last+1 || e != api.OK {
			t.Fatalf("Add = %d, %d, not %d", id, e, last+1)
		}
		kid, e := b.doAdd(t, id, own(1))
		if kid != last+2 || e != api.OK {
			t.Fatalf("Add = %d, %d, not %d", kid, e, last+2)
		}
		last = kid
		switch round % 4 {
		case 0:
			b.doRemove(t, id)
		case 1:
			b.doCut(t, id)
			b.doLift(t, id)
		case 2:
			b.doLift(t, id)
			b.doRemove(t, kid)
		case 3:
			b.doRemove(t, kid)
			b.doRemove(t, id)
		}
		if b.f.Len() != 0 {
			t.Fatalf("Len() = %d", b.f.Len())
		}
	}
	b.same(t)
}

// P10.1: children are told in the order in which they came, not by numbers of their owners, and without those of their own.
func TestKidsInTheOrderOfTheirComing(t *testing.T) {
	b := made(t)
	for i, x := range []struct{ parent, space, slot int }{{0, 9, 9}, {0, 8, 8}, {1, 7, 0}, {2, 6, 0}, {1, 5, 0}, {3, 4, 0}, {1, 3, 0}, {2, 2, 0}, {1, 1, 0}} {
		if id, e := b.doAdd(t, x.parent, api.Spot{Space: x.space, Slot: x.slot}); id != i+1 || e != api.OK {
			t.Fatalf("Add = %d, %d", id, e)
		}
	}
	ids(t, "Kids(1)", b.f.Kids(1), 3, 5, 7, 9)
	ids(t, "Kids(2)", b.f.Kids(2), 4, 8)
	ids(t, "Kids(3)", b.f.Kids(3), 6)
	b.doRemove(t, 5)
	ids(t, "Kids(1)", b.f.Kids(1), 3, 7, 9)
	b.doRemove(t, 9)
	b.doAdd(t, 1, own(1))
	ids(t, "Kids(1)", b.f.Kids(1), 3, 7, 10)
	b.doRemove(t, 3)
	ids(t, "Kids(1)", b.f.Kids(1), 7, 10)
	b.doRemove(t, 7)
	b.doRemove(t, 10)
	ids(t, "Kids(1)", b.f.Kids(1))
	b.doAdd(t, 1, own(1))
	ids(t, "Kids(1)", b.f.Kids(1), 11)
	b.same(t)
}

// P10.2: Below and Cut of a node whose children have children: child by child, each with all below it ahead of it, the deepest ones first; the node itself stays, and so do its parent and its siblings.
func TestCutGoesDeepestFirst(t *testing.T) {
	//	1: 2 (4 (8, 9), 5), 3 (6, 7 (10)); 11
	parents := []int{0, 1, 1, 2, 2, 3, 3, 4, 4, 7, 0}
	b := lay(t, parents...)
	ids(t, "Below(1)", b.f.Below(1), 8, 9, 4, 5, 2, 6, 10, 7, 3)
	ids(t, "Below(2)", b.f.Below(2), 8, 9, 4, 5)
	ids(t, "Below(3)", b.f.Below(3), 6, 10, 7)
	ids(t, "Below(7)", b.f.Below(7), 10)
	ids(t, "Below(8)", b.f.Below(8))
	spots(t, "Cut(2)", b.doCut(t, 2), owns(8, 9, 4, 5)...)
	b.same(t)
	ids(t, "Kids(1)", b.f.Kids(1), 2, 3)
	spots(t, "Cut(2)", b.doCut(t, 2))
	spots(t, "Cut(1)", b.doCut(t, 1), owns(2, 6, 10, 7, 3)...)
	b.same(t)
	spots(t, "Cut(1)", b.doCut(t, 1))
	for id := 2; id <= 10; id++ {
		gone(t, b, id, own(id))
	}
	spots(t, "Cut(1) of the whole", lay(t, parents...).doCut(t, 1), owns(8, 9, 4, 5, 2, 6, 10, 7, 3)...)
}

// P10.2: what was cut has room for new children, behind nothing.
func TestAddBehindACut(t *testing.T) {
	b := lay(t, 0, 1, 1, 2)
	b.doCut(t, 1)
	for id := 5; id <= 7; id++ {
		b.doAdd(t, 1, own(id-3))
		b.same(t)
	}
	ids(t, "Kids(1)", b.f.Kids(1), 5, 6, 7)
	b.doAdd(t, 5, own(5))
	spots(t, "Cut(1)", b.doCut(t, 1), owns(5, 2, 3, 4)...)
}

// P10.2: Remove is the same with itself last, of a root, of one between siblings, the first and the last one; what isn't below it stays.
func TestRemoveHasItselfLast(t *testing.T) {
	parents := []int{0, 1, 1, 1, 3, 3, 5, 4, 0, 9}
	for _, x := range []struct {
		id, parent int
		gone, kids []int
	}{
		{1, 0, []int{2, 7, 5, 6, 3, 8, 4, 1}, nil},
		{2, 1, []int{2}, []int{3, 4}},
		{3, 1, []int{7, 5, 6, 3}, []int{2, 4}},
		{4, 1, []int{8, 4}, []int{2, 3}},
		{5, 3, []int{7, 5}, []int{6}},
		{6, 3, []int{6}, []int{5}},
		{7, 5, []int{7}, nil},
		{9, 0, []int{10, 9}, nil},
	} {
		b := lay(t, parents...)
		spots(t, "Remove", b.doRemove(t, x.id), owns(x.gone...)...)
		ids(t, "Kids", b.f.Kids(x.parent), x.kids...)
		if b.f.Len() != 10-len(x.gone) {
			t.Errorf("Remove(%d): Len() = %d", x.id, b.f.Len())
		}
		b.same(t)
		for _, id := range x.gone {
			gone(t, b, id, own(id))
		}
	}
}

// P10.2: a lifted node's children become its parent's, behind the others, in their order, whether it is the first, between, the last or the only one; what is below them stays with them.
func TestLiftPutsChildrenBehindTheOthers(t *testing.T) {
	//	1: 2 (5, 6 (9)), 3 (7), 4 (8)
	parents := []int{0, 1, 1, 1, 2, 2, 3, 4, 6}
	for _, x := range []struct {
		lift []int
		kids []int
	}{
		{[]int{2}, []int{3, 4, 5, 6}},
		{[]int{3}, []int{2, 4, 7}},
		{[]int{4}, []int{2, 3, 8}},
		{[]int{2, 3}, []int{4, 5, 6, 7}},
		{[]int{3, 2}, []int{4, 7, 5, 6}},
		{[]int{4, 3, 2}, []int{8, 7, 5, 6}},
		{[]int{2, 6}, []int{3, 4, 5, 9}},
		{[]int{6, 2}, []int{3, 4, 5, 9}},
		{[]int{5, 2}, []int{3, 4, 6}},
		{[]int{2, 3, 4, 5, 6, 7, 8, 9}, nil},
	} {
		b := lay(t, parents...)
		for i, id := range x.lift {
			if e := b.doLift(t, id); e != api.OK || b.f.Len() != 8-i {
				t.Fatalf("Lift(%d) = %d, Len() = %d", id, e, b.f.Len())
			}
			b.same(t)
		}
		ids(t, "Kids(1)", b.f.Kids(1), x.kids...)
		for _, k := range x.kids {
			if b.f.Parent(k) != 1 {
				t.Errorf("Parent(%d) = %d", k, b.f.Parent(k))
			}
		}
		for _, id := range x.lift {
			gone(t, b, id, own(id))
		}
	}
}

// P10.2: what is added behind a lift stands behind the children that were lifted, and what is cut then goes in that order.
func TestAddBehindALift(t *testing.T) {
	b := lay(t, 0, 1, 1, 2, 2, 4)
	b.doLift(t, 2)
	b.doAdd(t, 1, own(2))
	b.doAdd(t, 3, own(8))
	b.same(t)
	ids(t, "Kids(1)", b.f.Kids(1), 3, 4, 5, 7)
	ids(t, "Below(1)", b.f.Below(1), 8, 3, 6, 4, 5, 7)
	spots(t, "Cut(1)", b.doCut(t, 1), owns(8, 3, 6, 4, 5, 2)...)
	b.same(t)
}

// P10.2: the children of a lifted root are roots, each with what is below it, and no siblings: what is done to one turns nothing in another one.
func TestLiftOfARoot(t *testing.T) {
	b := lay(t, 0, 1, 1, 1, 2, 3, 3)
	if e := b.doLift(t, 1); e != api.OK {
		t.Fatalf("Lift(1) = %d", e)
	}
	b.same(t)
	for _, id := range []int{2, 3, 4} {
		if b.f.Parent(id) != 0 {
			t.Errorf("Parent(%d) = %d", id, b.f.Parent(id))
		}
	}
	gone(t, b, 1, own(1))
	spots(t, "Remove(2)", b.doRemove(t, 2), owns(5, 2)...)
	b.same(t)
	b.doLift(t, 3)
	b.same(t)
	spots(t, "Remove(6)", b.doRemove(t, 6), own(6))
	b.doAdd(t, 4, own(1))
	spots(t, "Remove(4)", b.doRemove(t, 4), owns(1, 4)...)
	b.same(t)
	ids(t, "what is left", []int{b.f.Len(), b.f.Find(own(7).Space, own(7).Slot)}, 1, 7)
}

// P10.2: a node without children is cut, which turns nothing, lifted, or removed: a root, an only child, the first, between, and the last one.
func TestNodesWithoutChildren(t *testing.T) {
	parents := []int{0, 0, 2, 0, 4, 4, 4}
	for _, id := range []int{1, 3, 5, 6, 7} {
		b := lay(t, parents...)
		for range 3 {
			spots(t, "Cut", b.doCut(t, id))
			b.same(t)
		}
		if b.f.Len() != 7 {
			t.Fatalf("Cut(%d): Len() = %d", id, b.f.Len())
		}
		if e := b.doLift(t, id); e != api.OK || b.f.Len() != 6 {
			t.Fatalf("Lift(%d) = %d, Len() = %d", id, e, b.f.Len())
		}
		b.same(t)
		gone(t, b, id, own(id))
		b = lay(t, parents...)
		spots(t, "Remove", b.doRemove(t, id), own(id))
		if b.f.Len() != 6 {
			t.Fatalf("Remove(%d): Len() = %d", id, b.f.Len())
		}
		gone(t, b, id, own(id))
	}
}

// P10.1, P10.2: numbers of no node are nothing's, below 0, beside those that were given, and far ones, in a forest that has nodes.
func TestNumbersOfNoNode(t *testing.T) {
	b := lay(t, 0, 1, 2, 0)
	for _, id := range slices.Concat(noParents, []int{5, 6, 257, 258}) {
		gone(t, b, id, own(5))
		if s, n, ok := b.f.Owner(id); s != 0 || n != 0 || ok {
			t.Errorf("Owner(%d) = %d, %d, %v", id, s, n, ok)
		}
		if b.f.Parent(id) != 0 || len(b.f.Kids(id)) != 0 || len(b.f.Below(id)) != 0 {
			t.Errorf("%d has a parent, or children", id)
		}
	}
	if b.f.Len() != 4 {
		t.Errorf("Len() = %d", b.f.Len())
	}
}

// P10.1, P10.2: owners of no node are found nowhere, though another one has its space, or its slot, or both turned round.
func TestOwnersOfNoNode(t *testing.T) {
	b := made(t)
	b.doAdd(t, 0, api.Spot{Space: 3, Slot: 5})
	for _, o := range []api.Spot{{}, {Space: 3, Slot: 0}, {Space: 0, Slot: 5}, {Space: 5, Slot: 3}, {Space: 3, Slot: 4}, {Space: 3, Slot: 6}, {Space: 2, Slot: 5}, {Space: -3, Slot: -5}, {Space: 1<<32 + 3, Slot: 5}, {Space: 3, Slot: 1<<32 + 5}, {Space: math.MinInt + 3, Slot: 5}, {Space: 3, Slot: 256 + 5}} {
		if got := b.f.Find(o.Space, o.Slot); got != 0 {
			t.Errorf("Find(%v) = %d", o, got)
		}
	}
	if got := b.f.Find(3, 5); got != 1 {
		t.Errorf("Find(3, 5) = %d", got)
	}
}

// P10.1, P10.2: a nil forest has nothing; what tells an error is ErrArg, ahead of the other ones.
func TestNilForest(t *testing.T) {
	var f *forest.Forest
	for _, id := range slices.Concat(farIds, []int{1, 2, 3}) {
		for _, o := range farOwners {
			if n, e := f.Add(id, o.Space, o.Slot); n != 0 || e != api.ErrArg {
				t.Fatalf("Add(%d, %v) = %d, %d", id, o, n, e)
			}
			if n := f.Find(o.Space, o.Slot); n != 0 {
				t.Fatalf("Find(%v) = %d", o, n)
			}
		}
		if s, n, ok := f.Owner(id); s != 0 || n != 0 || ok {
			t.Fatalf("Owner(%d) = %d, %d, %v", id, s, n, ok)
		}
		if e := f.Lift(id); e != api.ErrArg {
			t.Fatalf("Lift(%d) = %d", id, e)
		}
		if f.Parent(id) != 0 || len(f.Kids(id))+len(f.Below(id))+len(f.Cut(id))+len(f.Remove(id))+f.Len() != 0 {
			t.Fatalf("a nil forest has something of %d", id)
		}
	}
}
