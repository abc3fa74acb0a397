package forest_test

import (
	"math"
	"slices"
	"testing"

	"quartermaster/api"
	"quartermaster/forest"
)

// leaf is a node of the model: it knows its parent alone.
type leaf struct {
	id, parent int
	owner      api.Spot
}

// model is a forest as a row of all its nodes, in the order in which each came to the parent that it has now: children aren't kept, but looked for.
type model struct {
	row  []leaf
	last int
}

func (m *model) at(id int) int {
	return slices.IndexFunc(m.row, func(x leaf) bool { return x.id == id })
}

func (m *model) has(id int) bool { return m.at(id) >= 0 }

func (m *model) find(owner api.Spot) int {
	for _, x := range m.row {
		if x.owner == owner {
			return x.id
		}
	}
	return 0
}

func (m *model) add(parent int, owner api.Spot) (int, api.Errno) {
	switch {
	case parent != 0 && !m.has(parent):
		return 0, api.ErrNone
	case m.find(owner) != 0:
		return 0, api.ErrTwice
	}
	m.last++
	m.row = append(m.row, leaf{m.last, parent, owner})
	return m.last, api.OK
}

func (m *model) parent(id int) int {
	if !m.has(id) {
		return 0
	}
	return m.row[m.at(id)].parent
}

func (m *model) owner(id int) (int, int, bool) {
	if !m.has(id) {
		return 0, 0, false
	}
	o := m.row[m.at(id)].owner
	return o.Space, o.Slot, true
}

func (m *model) kids(id int) []int {
	var l []int
	for _, x := range m.row {
		if m.has(id) && x.parent == id {
			l = append(l, x.id)
		}
	}
	return l
}

// below is what the chapter's words say of cutting, said again: child by child, each with all below it ahead of it.
func (m *model) below(id int) []int {
	var l []int
	for _, k := range m.kids(id) {
		l = append(append(l, m.below(k)...), k)
	}
	return l
}

// drop takes nodes out of the row, and is their owners.
func (m *model) drop(ids []int) []api.Spot {
	var l []api.Spot
	for _, id := range ids {
		l = append(l, m.row[m.at(id)].owner)
		m.row = slices.Delete(m.row, m.at(id), m.at(id)+1)
	}
	return l
}

func (m *model) cut(id int) []api.Spot { return m.drop(m.below(id)) }

func (m *model) remove(id int) []api.Spot {
	if !m.has(id) {
		return nil
	}
	return m.drop(append(m.below(id), id))
}

func (m *model) lift(id int) api.Errno {
	if !m.has(id) {
		return api.ErrNone
	}
	parent := m.parent(id)
	for _, k := range m.kids(id) {
		x := m.row[m.at(k)]
		x.parent = parent
		m.row = append(slices.Delete(m.row, m.at(k), m.at(k)+1), x)
	}
	m.drop([]int{id})
	return api.OK
}

// steps is a row of numbers that look like chance, and are the same at each run.
type steps uint64

func (s *steps) next(n int) int {
	*s = *s*6364136223846793005 + 1442695040888963407
	return int(*s>>33) % n
}

// noParents are numbers of no node: below 0, far ones, and those that would be a node's if they were cut off. farIds are these and 0, which is no node's either, but may be asked for as a parent.
var noParents = []int{math.MinInt, math.MinInt + 1, -1 << 32, -1<<32 + 1, -1<<32 + 2, -1<<31 + 1, -1 << 31, -65535, -256, -255, -3, -2, -1, 1 << 16, 1<<31 - 1, 1 << 31, 1 << 32, 1<<32 + 1, 1<<32 + 2, 1 << 62, math.MaxInt - 1, math.MaxInt}

var farIds = slices.Concat(noParents, []int{0})

// farOwners are owners of all sizes, among them such as would be one if a number were cut off, or two were taken for one, or turned round.
var farOwners = []api.Spot{{}, {Space: 0, Slot: 1}, {Space: 1, Slot: 0}, {Space: 1, Slot: 1}, {Space: -1, Slot: 1}, {Space: 1, Slot: -1}, {Space: -1, Slot: -1}, {Space: 0, Slot: 256}, {Space: 256, Slot: 0}, {Space: 257, Slot: 1}, {Space: 1, Slot: 257}, {Space: 1, Slot: 23}, {Space: 12, Slot: 3}, {Space: 1 << 31, Slot: 1}, {Space: 1 << 32, Slot: 1}, {Space: 1, Slot: 1 << 32}, {Space: 1<<32 + 1, Slot: 1<<32 + 1}, {Space: math.MaxInt, Slot: math.MinInt}, {Space: math.MinInt, Slot: math.MaxInt}, {Space: math.MaxInt, Slot: math.MaxInt}, {Space: math.MinInt, Slot: math.MinInt}}

// both is a forest and its model.
type both struct {
	f *forest.Forest
	*model
	owners []api.Spot
}

// made has no node; the owners are those that same asks for.
func made(t *testing.T, owners ...api.Spot) *both {
	t.Helper()
	b := &both{forest.New(), &model{}, slices.Concat(farOwners, owners)}
	b.same(t)
	return b
}

// same fails unless all that is told of the forest is what the model has, of all numbers that were given or will be, of far ones, and of all owners.
func (b *both) same(t *testing.T) {
	t.Helper()
	b.sameNear(t)
	for _, id := range farIds {
		b.sameNode(t, id)
	}
	for _, o := range b.owners {
		if got, want := b.f.Find(o.Space, o.Slot), b.find(o); got != want {
			t.Fatalf("Find(%v) = %d, not %d", o, got, want)
		}
	}
}

// sameNear is the part of same that is of nodes that were, are, or come next.
func (b *both) sameNear(t *testing.T) {
	t.Helper()
	if got, want := b.f.Len(), len(b.row); got != want {
		t.Fatalf("Len() = %d, not %d", got, want)
	}
	for id := range b.last + 3 {
		b.sameNode(t, id)
	}
	for _, x := range b.row {
		if got := b.f.Find(x.owner.Space, x.owner.Slot); got != x.id {
			t.Fatalf("Find(%v) = %d, not %d", x.owner, got, x.id)
		}
	}
}

func (b *both) sameNode(t *testing.T, id int) {
	t.Helper()
	space, slot, ok := b.f.Owner(id)
	if wantSpace, wantSlot, wantOk := b.owner(id); space != wantSpace || slot != wantSlot || ok != wantOk {
		t.Fatalf("Owner(%d) = %d, %d, %v, not %d, %d, %v", id, space, slot, ok, wantSpace, wantSlot, wantOk)
	}
	if got, want := b.f.Parent(id), b.parent(id); got != want {
		t.Fatalf("Parent(%d) = %d, not %d", id, got, want)
	}
	if got, want := b.f.Kids(id), b.kids(id); !slices.Equal(got, want) {
		t.Fatalf("Kids(%d) = %v, not %v", id, got, want)
	}
	if got, want := b.f.Below(id), b.below(id); !slices.Equal(got, want) {
		t.Fatalf("Below(%d) = %v, not %v", id, got, want)
	}
}

// What begins with do is done to both, and fails unless they answer the same.

func (b *both) doAdd(t *testing.T, parent int, o api.Spot) (int, api.Errno) {
	t.Helper()
	id, e := b.f.Add(parent, o.Space, o.Slot)
	if wantId, want := b.add(parent, o); id != wantId || e != want {
		t.Fatalf("Add(%d, %v) = %d, %d, not %d, %d", parent, o, id, e, wantId, want)
	}
	return id, e
}

func (b *both) doCut(t *testing.T, id int) []api.Spot {
	t.Helper()
	got := b.f.Cut(id)
	if want := b.cut(id); !slices.Equal(got, want) {
		t.Fatalf("Cut(%d) = %v, not %v", id, got, want)
	}
	return got
}

func (b *both) doRemove(t *testing.T, id int) []api.Spot {
	t.Helper()
	got := b.f.Remove(id)
	if want := b.remove(id); !slices.Equal(got, want) {
		t.Fatalf("Remove(%d) = %v, not %v", id, got, want)
	}
	return got
}

func (b *both) doLift(t *testing.T, id int) api.Errno {
	t.Helper()
	got := b.f.Lift(id)
	if want := b.lift(id); got != want {
		t.Fatalf("Lift(%d) = %d, not %d", id, got, want)
	}
	return got
}

// own is the owner that the node of that number gets in trees that are laid by lay.
func own(id int) api.Spot { return api.Spot{Space: 100 + id, Slot: -id} }

// owns are the owners of those.
func owns(ids ...int) []api.Spot {
	var l []api.Spot
	for _, id := range ids {
		l = append(l, own(id))
	}
	return l
}

// lay lays a forest by the parents of the nodes 1, 2, and so on.
func lay(t *testing.T, parents ...int) *both {
	t.Helper()
	var owners []api.Spot
	for i := range parents {
		owners = append(owners, own(i+1))
	}
	b := made(t, owners...)
	for i, parent := range parents {
		if id, e := b.doAdd(t, parent, own(i+1)); id != i+1 || e != api.OK {
			t.Fatalf("Add(%d) = %d, %d, not %d", parent, id, e, i+1)
		}
	}
	b.same(t)
	return b
}
