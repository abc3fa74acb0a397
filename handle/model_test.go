package handle_test

import (
	"slices"
	"testing"

	"quartermaster/api"
	"quartermaster/handle"
)

// thing is an object of the model that is live or a zombie.
type thing struct {
	o    api.Object
	dead bool
}

// model is a table as all that is live or a zombie, by handles, and the ages of its places, of which one of 2^20 is worn out.
type model struct {
	things map[api.Handle]thing
	ages   [256]int
}

func newModel() *model { return &model{things: map[api.Handle]thing{}} }

// name is the handle of a place and an age.
func name(place, age int) api.Handle { return api.Handle(age*256 + place) }

// now is the handle that a place has, or would have next.
func (m *model) now(place int) api.Handle { return name(place, m.ages[place]) }

func (m *model) empty(place int) bool {
	_, ok := m.things[m.now(place)]
	return !ok && m.ages[place] < 1<<20
}

func (m *model) put(o api.Object) (api.Handle, api.Errno) {
	for place := range 256 {
		if m.empty(place) {
			m.things[m.now(place)] = thing{o: o}
			return m.now(place), api.OK
		}
	}
	return 0, api.ErrFull
}

func (m *model) get(h api.Handle) (api.Object, api.Errno) {
	if x, ok := m.things[h]; ok && !x.dead {
		return x.o, api.OK
	}
	return api.Object{}, api.ErrCap
}

func (m *model) kill(h api.Handle) api.Errno {
	x, ok := m.things[h]
	if !ok || x.dead {
		return api.ErrCap
	}
	m.things[h] = thing{x.o, true}
	return api.OK
}

func (m *model) free(h api.Handle) (api.Object, api.Errno) {
	x := m.things[h]
	if !x.dead {
		return api.Object{}, api.ErrCap
	}
	delete(m.things, h)
	m.ages[h%256]++
	return x.o, api.OK
}

func (m *model) peek(h api.Handle) (api.Object, api.Errno) {
	if x, ok := m.things[h]; ok {
		return x.o, api.OK
	}
	return api.Object{}, api.ErrCap
}

func (m *model) room() int {
	n := 0
	for place := range 256 {
		if m.empty(place) {
			n++
		}
	}
	return n
}

// list are the handles of what is live, or of zombies, by rising places.
func (m *model) list(dead bool) []api.Handle {
	var l []api.Handle
	for place := range 256 {
		if x, ok := m.things[m.now(place)]; ok && x.dead == dead {
			l = append(l, m.now(place))
		}
	}
	return l
}

func (m *model) age(place, age int) bool {
	if place < 0 || place > 255 || age < 0 || age > 1<<20-1 || !m.empty(place) {
		return false
	}
	m.ages[place] = age
	return true
}

// steps is a row of numbers that look like chance, and are the same at each run.
type steps uint64

func (s *steps) next(n int) int {
	*s = *s*6364136223846793005 + 1442695040888963407
	return int(*s>>33) % n
}

// object is one like no other that was made of these steps.
func (s *steps) object() api.Object {
	return api.Object{Kind: s.next(1<<30) - 1<<29, At: s.next(1 << 30), Factory: s.next(1<<30) - 5}
}

// both is a table and its model.
type both struct {
	t *handle.Table
	*model
}

func made(t *testing.T) *both {
	t.Helper()
	x := handle.New()
	if x == nil {
		t.Fatal("New() is nil")
	}
	return &both{x, newModel()}
}

// same fails unless all that is told of the table is what the model has, of each place by the age that it has, and by those beside it.
func (b *both) same(t *testing.T) {
	t.Helper()
	if got, want := b.t.Room(), b.room(); got != want {
		t.Fatalf("Room() = %d, not %d", got, want)
	}
	if got, want := b.t.Live(), b.list(false); !slices.Equal(got, want) {
		t.Fatalf("Live() = %v, not %v", got, want)
	}
	if got, want := b.t.Zombies(), b.list(true); !slices.Equal(got, want) {
		t.Fatalf("Zombies() = %v, not %v", got, want)
	}
	for place := range 256 {
		h := b.now(place)
		b.told(t, h)
		b.told(t, h-256)
		b.told(t, h+256)
	}
}

// told fails unless Get and Peek tell the model's object of a handle.
func (b *both) told(t *testing.T, h api.Handle) {
	t.Helper()
	o, e := b.t.Get(h)
	if wantO, want := b.get(h); o != wantO || e != want {
		t.Fatalf("Get(%d) = %v, %d, not %v, %d", h, o, e, wantO, want)
	}
	o, e = b.t.Peek(h)
	if wantO, want := b.peek(h); o != wantO || e != want {
		t.Fatalf("Peek(%d) = %v, %d, not %v, %d", h, o, e, wantO, want)
	}
}

// What begins with do is done to both, and fails unless they answer the same.

func (b *both) doPut(t *testing.T, o api.Object) (api.Handle, api.Errno) {
	t.Helper()
	h, e := b.t.Put(o)
	if wantH, want := b.put(o); h != wantH || e != want {
		t.Fatalf("Put(%v) = %d, %d, not %d, %d", o, h, e, wantH, want)
	}
	return h, e
}

func (b *both) doKill(t *testing.T, h api.Handle) api.Errno {
	t.Helper()
	e := b.t.Kill(h)
	if want := b.kill(h); e != want {
		t.Fatalf("Kill(%d) = %d, not %d", h, e, want)
	}
	return e
}

func (b *both) doFree(t *testing.T, h api.Handle) api.Errno {
	t.Helper()
	o, e := b.t.Free(h)
	if wantO, want := b.free(h); o != wantO || e != want {
		t.Fatalf("Free(%d) = %v, %d, not %v, %d", h, o, e, wantO, want)
	}
	return e
}

func (b *both) doAge(t *testing.T, place, age int) bool {
	t.Helper()
	got := b.t.Age(place, age)
	if want := b.age(place, age); got != want {
		t.Fatalf("Age(%d, %d) = %t, not %t", place, age, got, want)
	}
	return got
}

// namesNothing fails unless all that takes a handle answers a zero object and ErrCap of this one, and nothing turns.
func (b *both) namesNothing(t *testing.T, h api.Handle) {
	t.Helper()
	if o, e := b.t.Get(h); o != (api.Object{}) || e != api.ErrCap {
		t.Fatalf("Get(%d) = %v, %d", h, o, e)
	}
	if o, e := b.t.Peek(h); o != (api.Object{}) || e != api.ErrCap {
		t.Fatalf("Peek(%d) = %v, %d", h, o, e)
	}
	if o, e := b.t.Free(h); o != (api.Object{}) || e != api.ErrCap {
		t.Fatalf("Free(%d) = %v, %d", h, o, e)
	}
	if e := b.t.Kill(h); e != api.ErrCap {
		t.Fatalf("Kill(%d) = %d", h, e)
	}
	b.same(t)
}

// fill puts objects till there is no room, which tells the ages of all places that were empty.
func (b *both) fill(t *testing.T, s *steps) {
	t.Helper()
	for e := api.OK; e == api.OK; {
		_, e = b.doPut(t, s.object())
	}
	b.same(t)
}

// clear kills and frees all there is.
func (b *both) clear(t *testing.T) {
	t.Helper()
	for place := range 256 {
		b.doKill(t, b.now(place))
		b.doFree(t, b.now(place))
	}
	b.same(t)
}
