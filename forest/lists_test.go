package forest_test

import (
	"slices"
	"testing"

	"quartermaster/api"
)

// spoil sets all that a list has, and its spare room, and puts more behind it.
func spoil[T any](l []T, x T) {
	l = l[:cap(l)]
	for i := range l {
		l[i] = x
	}
	_ = append(l, x, x)
}

// answer is a list that was answered, and what it was then.
type answer[T comparable] struct{ got, was []T }

func told[T comparable](l []T) answer[T] { return answer[T]{l, slices.Clone(l)} }

// stays fails unless the list is what it was.
func (a answer[T]) stays(t *testing.T) {
	t.Helper()
	if !slices.Equal(a.got, a.was) {
		t.Fatalf("an answer is %v now, not %v", a.got, a.was)
	}
}

// P10.1, P10.2: lists that were answered, and are changed by whoever has them, turn nothing in the forest.
func TestChangedListsTurnNothing(t *testing.T) {
	nobody := api.Spot{Space: -9, Slot: -9}
	b := lay(t, 0, 1, 1, 2, 2, 3, 5, 7, 0, 9)
	for id := 1; id <= 10; id++ {
		spoil(b.f.Kids(id), 1)
		spoil(b.f.Below(id), 1)
		b.same(t)
	}
	spoil(b.doCut(t, 5), nobody)
	b.same(t)
	spoil(b.doRemove(t, 9), nobody)
	b.same(t)
	spoil(b.doCut(t, 4), nobody)
	b.same(t)
	b.doAdd(t, 5, own(7))
	b.doAdd(t, 11, own(8))
	b.same(t)
	spoil(b.doRemove(t, 1), nobody)
	b.same(t)
}

// P10.1, P10.2: an answer stays as it is, whatever is asked and done behind it, and shares nothing with another one.
func TestAnswersStay(t *testing.T) {
	var s steps = 31
	owners := someOwners(30)
	b := made(t, owners...)
	var lists []answer[int]
	var went []answer[api.Spot]
	for range 150 {
		for range 4 {
			b.doAdd(t, b.pick(&s), owners[s.next(len(owners))])
		}
		id := b.pick(&s)
		lists = append(lists, told(b.f.Kids(id)), told(b.f.Below(id)))
		switch s.next(3) {
		case 0:
			went = append(went, told(b.doCut(t, id)))
		case 1:
			went = append(went, told(b.doRemove(t, id)))
		default:
			b.doLift(t, id)
		}
	}
	for i, a := range lists {
		a.stays(t)
		spoil(a.got, -1)
		for _, x := range lists[i+1:] {
			x.stays(t)
		}
	}
	for i, a := range went {
		a.stays(t)
		spoil(a.got, api.Spot{Space: -9})
		for _, x := range went[i+1:] {
			x.stays(t)
		}
	}
	b.same(t)
}
