package handle_test

import (
	"slices"
	"testing"

	"quartermaster/api"
	"quartermaster/handle"
)

// P7.2: the age of an empty place is set, whether it was used or not, at the edges and between them, forth and back, and the next handle has it.
func TestAgeOfAnEmptyPlace(t *testing.T) {
	b := made(t)
	for _, age := range []int{0, 1<<20 - 1, 1, 0, 1<<20 - 2, 1<<20 - 1, 1 << 19, 255, 256, 7} {
		for _, place := range []int{0, 1, 77, 254, 255} {
			ages(t, b.t, place, age)
			b.age(place, age)
			b.same(t)
		}
		if h, e := b.t.Put(api.Object{}); h != name(0, age) || e != api.OK {
			t.Fatalf("Put = %d, %d, not of the age %d", h, e, age)
		}
		if age == 1<<20-1 {
			b = made(t)
			continue
		}
		frees(t, b.t, name(0, age))
		b.age(0, age+1)
		b.same(t)
	}
	var s steps = 77
	b.fill(t, &s)
}

// P7.2: an age that there isn't isn't set.
func TestAgeThatThereIsNot(t *testing.T) {
	var s steps = 78
	b := made(t)
	b.doAge(t, 3, 7)
	for _, age := range noAges {
		for _, place := range []int{0, 3, 255} {
			if b.t.Age(place, age) {
				t.Fatalf("Age(%d, %d) is true", place, age)
			}
		}
	}
	b.fill(t, &s)
	if !slices.Contains(b.t.Live(), name(3, 7)) {
		t.Fatalf("Live() = %v", b.t.Live())
	}
}

// P7.2: a place that there isn't has no age.
func TestAgeOfNoPlace(t *testing.T) {
	var s steps = 79
	b := made(t)
	for _, place := range noPlaces {
		for _, age := range []int{0, 1, 7, 1<<20 - 1, -1, 1 << 20} {
			if b.t.Age(place, age) {
				t.Fatalf("Age(%d, %d) is true", place, age)
			}
		}
	}
	b.fill(t, &s)
}

// P7.2: the age of a live place, of a zombie's and of one that is worn out isn't set, not even to what it is.
func TestAgeOfAPlaceThatIsNotEmpty(t *testing.T) {
	b := made(t)
	o := api.Object{Kind: api.Task, At: 128}
	// The place 0 is worn out, 1 a zombie's, 2 live, 3 empty.
	ages(t, b.t, 0, 1<<20-1)
	b.age(0, 1<<20-1)
	for range 3 {
		b.doPut(t, o)
	}
	b.doKill(t, name(0, 1<<20-1))
	b.doFree(t, name(0, 1<<20-1))
	b.doKill(t, 1)
	for _, age := range slices.Concat([]int{0, 1, 2, 1<<20 - 2, 1<<20 - 1}, noAges) {
		for place := range 3 {
			if b.t.Age(place, age) {
				t.Fatalf("Age(%d, %d) is true", place, age)
			}
			b.same(t)
		}
	}
	gets(t, b.t, 2, o)
	if got, e := b.t.Free(1); got != o || e != api.OK {
		t.Fatalf("Free = %v, %d", got, e)
	}
	ages(t, b.t, 1, 9)
	ages(t, b.t, 3, 9)
	puts(t, b.t, o, name(1, 9))
	puts(t, b.t, o, name(3, 9))
	puts(t, b.t, o, 4)
}

// wearOut wears a place out, of the object that it has next.
func (b *both) wearOut(t *testing.T, place int) {
	t.Helper()
	ages(t, b.t, place, 1<<20-1)
	b.age(place, 1<<20-1)
	h, e := b.doPut(t, api.Object{Kind: api.Irq, At: place})
	if h != name(place, 1<<20-1) || e != api.OK {
		t.Fatalf("Put = %d, %d, not of the place %d", h, e, place)
	}
	b.doKill(t, h)
	b.doFree(t, h)
}

// P7.1, P7.2: a place of the age MaxAge that is freed is never used again: no room, no age, no handle, whatever is put and freed behind that.
func TestWornOut(t *testing.T) {
	var s steps = 80
	b := made(t)
	b.wearOut(t, 0)
	worn := []api.Handle{0, 256, name(0, 1<<20-2), name(0, 1<<20-1), 1 << 28}
	if b.t.Room() != 255 || len(b.t.Live()) != 0 || len(b.t.Zombies()) != 0 {
		t.Fatalf("Room() = %d, Live() = %v, Zombies() = %v", b.t.Room(), b.t.Live(), b.t.Zombies())
	}
	for round := range 4 {
		for _, h := range worn {
			b.namesNothing(t, h)
		}
		for place := 1; place < 256; place++ {
			puts(t, b.t, api.Object{}, name(place, round))
			b.put(api.Object{})
		}
		if h, e := b.doPut(t, s.object()); h != 0 || e != api.ErrFull {
			t.Fatalf("Put = %d, %d", h, e)
		}
		b.same(t)
		b.clear(t)
		if b.t.Age(0, 0) || b.t.Room() != 255 {
			t.Fatalf("the place 0 is empty again; Room() = %d", b.t.Room())
		}
	}
}

// P7.1, P7.2: when all places are worn out, none is empty.
func TestAllWornOut(t *testing.T) {
	b := made(t)
	for place := range 256 {
		b.wearOut(t, place)
		if got := b.t.Room(); got != 255-place {
			t.Fatalf("Room() = %d of %d that are worn out", got, place+1)
		}
	}
	if h, e := b.doPut(t, api.Object{}); h != 0 || e != api.ErrFull {
		t.Fatalf("Put = %d, %d", h, e)
	}
	b.same(t)
}

// P7.1 to P7.3: a place has each age once, from 0 to MaxAge, and is worn out then; no handle of it is given twice.
func TestEachAgeOnce(t *testing.T) {
	x := handle.New()
	o := api.Object{Kind: api.Frame}
	puts(t, x, o, 0)
	for age := range 1 << 20 {
		// The place 0 is live, and so it is the place 1 that is put and freed all along.
		puts(t, x, o, name(1, age))
		frees(t, x, name(1, age))
	}
	if x.Room() != 254 || x.Age(1, 0) {
		t.Fatalf("the place 1 is empty; Room() = %d", x.Room())
	}
	puts(t, x, o, 2)
}

// P7.3: handles that were freed name nothing any more, whatever is put, killed and freed behind that, and aged forth.
func TestFreedHandlesNameNothing(t *testing.T) {
	var s steps = 81
	x := handle.New()
	gone := map[api.Handle]bool{}
	next := [256]int{}
	for range 20000 {
		live, zombies := x.Live(), x.Zombies()
		switch k := s.next(8); {
		case k < 3 && x.Room() > 200:
			h, e := x.Put(s.object())
			if e != api.OK || gone[h] {
				t.Fatalf("Put = %d, %d; it was freed: %t", h, e, gone[h])
			}
		case k < 5 && len(live) > 0:
			x.Kill(live[s.next(len(live))])
		case k < 7 && len(zombies) > 0:
			h := zombies[s.next(len(zombies))]
			x.Free(h)
			gone[h] = true
			next[h%256] = int(h>>8) + 1
		case s.next(4) == 0:
			place := s.next(256)
			if age := next[place] + s.next(3); x.Age(place, age) {
				next[place] = age
			}
		}
	}
	for h := range gone {
		if _, e := x.Get(h); e != api.ErrCap {
			t.Fatalf("Get(%d) = %d of one that was freed", h, e)
		}
		if _, e := x.Peek(h); e != api.ErrCap {
			t.Fatalf("Peek(%d) = %d of one that was freed", h, e)
		}
		if e := x.Kill(h); e != api.ErrCap {
			t.Fatalf("Kill(%d) = %d of one that was freed", h, e)
		}
	}
	if len(gone) < 1000 {
		t.Errorf("%d were freed only", len(gone))
	}
}

// P7.3: when Age sets a place's age back, its next object has the handle that was freed, and that names it again.
func TestAgeSetBack(t *testing.T) {
	b := made(t)
	for range 3 {
		h, _ := b.doPut(t, api.Object{Kind: api.Gate})
		b.doKill(t, h)
		b.doFree(t, h)
	}
	ages(t, b.t, 0, 1)
	b.age(0, 1)
	for _, h := range []api.Handle{0, 256, 512, 768} {
		b.namesNothing(t, h)
	}
	o := api.Object{Kind: api.Irq, At: 160, Factory: 4}
	puts(t, b.t, o, 256)
	gets(t, b.t, 256, o)
	frees(t, b.t, 256)
	puts(t, b.t, o, 512)
}
