package forest_test

import (
	"slices"
	"testing"

	"quartermaster/api"
	"quartermaster/forest"
)

// pick is a number that is mostly a node's, now and then one that went, one that comes next, or a far one.
func (b *both) pick(s *steps) int {
	switch k := s.next(20); {
	case k == 0:
		return farIds[s.next(len(farIds))]
	case k < 3 || len(b.row) == 0:
		return s.next(b.last + 3)
	}
	return b.row[s.next(len(b.row))].id
}

// someOwners are as many owners as are asked for, of few spaces.
func someOwners(many int) []api.Spot {
	var l []api.Spot
	for i := range many {
		l = append(l, api.Spot{Space: i%7 - 3, Slot: i / 7})
	}
	return l
}

// P10.1 to P10.3: like the model, in mixed order, several roots among them, with few owners and with many, so that trees are small or great; all that is told is looked at behind each step.
func TestLikeTheModel(t *testing.T) {
	for seed := range 24 {
		s := steps(seed)
		owners := someOwners([]int{3, 8, 20, 40}[seed%4])
		b := made(t, owners...)
		for range 400 {
			switch k := s.next(100); {
			case k < 8:
				b.doAdd(t, 0, owners[s.next(len(owners))])
			case k < 70:
				b.doAdd(t, b.pick(&s), owners[s.next(len(owners))])
			case k < 85:
				b.doLift(t, b.pick(&s))
			case k < 93:
				b.doCut(t, b.pick(&s))
			default:
				b.doRemove(t, b.pick(&s))
			}
			b.same(t)
		}
	}
}

// P10.1 to P10.3: like the model, by all rows of five steps behind a root and a child: adding of a root and below each of the first four numbers, and cutting, removing and lifting of each of the first three.
func TestAllShortRows(t *testing.T) {
	const kinds = 14
	for row := range kinds * kinds * kinds * kinds * kinds {
		b := &both{f: forest.New(), model: &model{}}
		b.doAdd(t, 0, own(1))
		b.doAdd(t, 1, own(2))
		for left, n := row, 0; n < 5; n++ {
			k := left % kinds
			left /= kinds
			switch {
			case k < 5:
				b.doAdd(t, k, own(b.last%4+1))
			case k < 8:
				b.doCut(t, k-4)
			case k < 11:
				b.doRemove(t, k-7)
			default:
				b.doLift(t, k-10)
			}
		}
		b.sameNear(t)
	}
}

// P10.3: no node is below itself, each is below all that its parents are below, and nothing goes but what Below had.
func TestNoNodeIsBelowItself(t *testing.T) {
	for seed := range 10 {
		s := steps(200 + seed)
		owners := someOwners(60)
		b := made(t, owners...)
		for range 300 {
			b.doAdd(t, b.pick(&s), owners[s.next(len(owners))])
			if s.next(3) == 0 {
				b.doLift(t, b.pick(&s))
			}
			id := b.pick(&s)
			below := b.f.Below(id)
			if slices.Contains(below, id) {
				t.Fatalf("%d is below itself: %v", id, below)
			}
			for p, n := b.f.Parent(id), 0; p != 0; p, n = b.f.Parent(p), n+1 {
				if n > b.f.Len() || !slices.Contains(b.f.Below(p), id) {
					t.Fatalf("%d isn't below %d, or its parents don't end", id, p)
				}
			}
			if s.next(6) > 0 {
				continue
			}
			before := b.f.Len()
			if l := b.doCut(t, id); len(l) != len(below) || b.f.Len() != before-len(below) {
				t.Fatalf("Cut(%d): %d went, not %d", id, len(l), len(below))
			}
			b.same(t)
		}
	}
}

// deep is a forest of one tree, each node the child of the one ahead of it.
func deep(t *testing.T, many int) *forest.Forest {
	t.Helper()
	f := forest.New()
	for i := range many {
		if id, e := f.Add(i, i, 0); id != i+1 || e != api.OK {
			t.Fatalf("Add(%d) = %d, %d", i, id, e)
		}
	}
	return f
}

// wide is a forest of one tree, a root and its children.
func wide(t *testing.T, many int) *forest.Forest {
	t.Helper()
	f := forest.New()
	f.Add(0, -1, 0)
	for i := range many {
		if id, e := f.Add(1, i, 0); id != i+2 || e != api.OK {
			t.Fatalf("Add(1) = %d, %d, not %d", id, e, i+2)
		}
	}
	return f
}

// P10.2: a very deep tree goes from its end on, and each that is lifted out of it leaves the others where they are.
func TestDeepTree(t *testing.T) {
	const many = 1<<19 + 1
	f := deep(t, many)
	for i, id := range f.Below(1) {
		if id != many-i {
			t.Fatalf("Below(1)[%d] = %d", i, id)
		}
	}
	for id := 2; id < many; id += 2 {
		if e := f.Lift(id); e != api.OK || f.Parent(id+1) != id-1 {
			t.Fatalf("Lift(%d) = %d, Parent(%d) = %d", id, e, id+1, f.Parent(id+1))
		}
	}
	l := f.Remove(1)
	if len(l) != many/2+1 || f.Len() != 0 {
		t.Fatalf("Remove(1): %d went, %d are left", len(l), f.Len())
	}
	for i, o := range l {
		if want := (api.Spot{Space: many - 1 - 2*i}); o != want {
			t.Fatalf("the %d-th that went is %v, not %v", i, o, want)
		}
	}
}

// P10.2: a very wide tree goes in the order in which its children came; they are removed one by one from behind, from the front and from between.
func TestWideTree(t *testing.T) {
	const many = 1 << 18
	f := wide(t, many)
	for i := range many / 4 {
		for _, k := range []int{many - 1 - i, i} {
			if l := f.Remove(k + 2); len(l) != 1 || l[0] != (api.Spot{Space: k}) {
				t.Fatalf("Remove(%d) = %v", k+2, l)
			}
		}
	}
	for k := many/4 + 1; k < many*3/4; k += 2 {
		f.Remove(k + 2)
	}
	kids := f.Kids(1)
	if len(kids) != many/4 {
		t.Fatalf("%d children are left", len(kids))
	}
	for i, id := range kids {
		if id != many/4+2*i+2 || f.Parent(id) != 1 {
			t.Fatalf("Kids(1)[%d] = %d, of the parent %d", i, id, f.Parent(id))
		}
	}
	if !slices.Equal(f.Below(1), kids) {
		t.Fatal("Below(1) isn't Kids(1)")
	}
	for i, o := range f.Cut(1) {
		if want := (api.Spot{Space: many/4 + 2*i}); o != want {
			t.Fatalf("the %d-th that went is %v, not %v", i, o, want)
		}
	}
	if f.Len() != 1 || len(f.Kids(1)) != 0 {
		t.Fatalf("Len() = %d, Kids(1) = %v", f.Len(), f.Kids(1))
	}
}

// P10.2: the very many children of a node that is lifted stand behind its sibling, in their order.
func TestLiftOfVeryManyChildren(t *testing.T) {
	const many = 1 << 18
	f := forest.New()
	f.Add(0, -1, 0)
	f.Add(1, -2, 0)
	for i := range many {
		f.Add(2, i, 0)
	}
	last, _ := f.Add(1, -3, 0)
	if e := f.Lift(2); e != api.OK {
		t.Fatalf("Lift(2) = %d", e)
	}
	kids := f.Kids(1)
	if len(kids) != many+1 || kids[0] != last {
		t.Fatalf("%d children, the first one %d", len(kids), kids[0])
	}
	for i, id := range kids[1:] {
		if id != i+3 || f.Parent(id) != 1 {
			t.Fatalf("the child %d is %d, of the parent %d", i, id, f.Parent(id))
		}
	}
}

// P10.1, P10.2: forests stand alone: what is done to one turns nothing in another one.
func TestForestsStandAlone(t *testing.T) {
	var s steps = 5
	owners := someOwners(12)
	l := []*both{made(t, owners...), made(t, owners...), made(t, owners...)}
	for range 300 {
		b := l[s.next(len(l))]
		switch k := s.next(10); {
		case k < 7:
			b.doAdd(t, b.pick(&s), owners[s.next(len(owners))])
		case k < 8:
			b.doLift(t, b.pick(&s))
		case k < 9:
			b.doCut(t, b.pick(&s))
		default:
			b.doRemove(t, b.pick(&s))
		}
		for _, x := range l {
			x.same(t)
		}
	}
}

// P10.1, P10.2: asking turns nothing, however often.
func TestAskingTurnsNothing(t *testing.T) {
	b := lay(t, 0, 1, 1, 2, 0, 5)
	for range 20 {
		b.same(t)
	}
	spots(t, "Remove(1)", b.doRemove(t, 1), owns(4, 2, 3, 1)...)
	b.same(t)
}
