package handle_test

import (
	"math"
	"slices"
	"testing"

	"quartermaster/api"
	"quartermaster/handle"
)

// noPlaces are numbers of no place: those beside the places, and far ones, of which a cut-off number would be a place.
var noPlaces = []int{math.MinInt, math.MinInt + 1, -1 << 32, -1<<32 + 5, -257, -256, -255, -1, 256, 257, 511, 512, 1 << 16, 1<<32 - 1, 1 << 32, 1<<32 + 5, 1 << 62, math.MaxInt - 1, math.MaxInt}

// noAges are numbers of no age, likewise.
var noAges = []int{math.MinInt, math.MinInt + 1, -1 << 32, -1<<32 + 7, -1 << 20, -2, -1, 1 << 20, 1<<20 + 1, 1<<20 + 7, 1<<21 - 1, 1 << 24, 1<<24 + 7, 1<<32 - 1, 1 << 32, 1<<32 + 7, 1 << 62, math.MaxInt - 1, math.MaxInt}

// puts fails unless the object gets that handle.
func puts(t *testing.T, x *handle.Table, o api.Object, want api.Handle) {
	t.Helper()
	if h, e := x.Put(o); h != want || e != api.OK {
		t.Fatalf("Put(%v) = %d, %d, not %d", o, h, e, want)
	}
}

// gets fails unless the handle names that object.
func gets(t *testing.T, x *handle.Table, h api.Handle, want api.Object) {
	t.Helper()
	if o, e := x.Get(h); o != want || e != api.OK {
		t.Fatalf("Get(%d) = %v, %d, not %v", h, o, e, want)
	}
}

// frees fails unless the handle names something, which is killed, and freed.
func frees(t *testing.T, x *handle.Table, h api.Handle) {
	t.Helper()
	if e := x.Kill(h); e != api.OK {
		t.Fatalf("Kill(%d) = %d", h, e)
	}
	if _, e := x.Free(h); e != api.OK {
		t.Fatalf("Free(%d) = %d", h, e)
	}
}

// ages fails unless the place's age can be set.
func ages(t *testing.T, x *handle.Table, place, age int) {
	t.Helper()
	if !x.Age(place, age) {
		t.Fatalf("Age(%d, %d) is false", place, age)
	}
}

// The chapter's examples.
func TestExamples(t *testing.T) {
	x := handle.New()
	puts(t, x, api.Object{Kind: api.Task}, 0)
	frees(t, x, 0)
	puts(t, x, api.Object{Kind: api.Task}, 256)
}

// P7.1: a new table has 256 empty places, of the age 0.
func TestNewIsEmpty(t *testing.T) {
	b := made(t)
	if b.t.Room() != 256 || len(b.t.Live()) != 0 || len(b.t.Zombies()) != 0 {
		t.Fatalf("Room() = %d, Live() = %v, Zombies() = %v", b.t.Room(), b.t.Live(), b.t.Zombies())
	}
	b.same(t)
	for place := range 256 {
		puts(t, b.t, api.Object{}, api.Handle(place))
	}
}

// P7.1: objects of all numbers are told whole, live, as zombies and when they are freed.
func TestObjectsAreToldWhole(t *testing.T) {
	x := handle.New()
	edge := []int{math.MinInt, -1 << 32, -1, 0, 1, 8, 9, 255, 256, 1<<32 + 1, math.MaxInt}
	for i, a := range edge {
		for k, c := range edge {
			o := api.Object{Kind: a, At: edge[(i+k)%len(edge)], Factory: c}
			h, e := x.Put(o)
			if e != api.OK {
				t.Fatalf("Put(%v) = %d", o, e)
			}
			gets(t, x, h, o)
			if got, e := x.Peek(h); got != o || e != api.OK {
				t.Fatalf("Peek of a live one: %v, %d, not %v", got, e, o)
			}
			if e := x.Kill(h); e != api.OK {
				t.Fatalf("Kill(%d) = %d", h, e)
			}
			if got, e := x.Peek(h); got != o || e != api.OK {
				t.Fatalf("Peek of a zombie: %v, %d, not %v", got, e, o)
			}
			if got, e := x.Free(h); got != o || e != api.OK {
				t.Fatalf("Free: %v, %d, not %v", got, e, o)
			}
		}
	}
}

// P7.1: the first empty place is used, in whichever order places were freed.
func TestFirstEmptyPlaceIsUsed(t *testing.T) {
	var s steps = 71
	b := made(t)
	b.fill(t, &s)
	for _, place := range []api.Handle{200, 255, 3, 17, 0, 128} {
		b.doKill(t, place)
	}
	for _, place := range []api.Handle{17, 255, 0, 200, 3} {
		b.doFree(t, place)
	}
	for _, want := range []api.Handle{256, 256 + 3, 256 + 17, 256 + 200, 256 + 255} {
		if h, e := b.doPut(t, s.object()); h != want || e != api.OK {
			t.Fatalf("Put = %d, %d, not %d", h, e, want)
		}
		b.same(t)
	}
	// The place 128 is a zombie's, and so there is no empty one.
	if h, e := b.doPut(t, s.object()); h != 0 || e != api.ErrFull {
		t.Fatalf("Put = %d, %d", h, e)
	}
}

// P7.1: all 256 places are used, and one more isn't: all live, some of them zombies, all of them zombies; when one is freed, there is room for one.
func TestFullTable(t *testing.T) {
	var s steps = 72
	b := made(t)
	for place := range 256 {
		if h, e := b.doPut(t, s.object()); h != api.Handle(place) || e != api.OK {
			t.Fatalf("Put = %d, %d, not %d", h, e, place)
		}
	}
	for _, dead := range []int{0, 1, 100, 255, 256} {
		for place := range dead {
			b.doKill(t, api.Handle(place))
		}
		if h, e := b.doPut(t, s.object()); h != 0 || e != api.ErrFull || b.t.Room() != 0 {
			t.Fatalf("of %d zombies: Put = %d, %d, Room() = %d", dead, h, e, b.t.Room())
		}
		b.same(t)
	}
	b.doFree(t, 77)
	if h, e := b.doPut(t, s.object()); h != 256+77 || e != api.OK {
		t.Fatalf("Put = %d, %d", h, e)
	}
	if h, e := b.doPut(t, s.object()); h != 0 || e != api.ErrFull {
		t.Fatalf("Put = %d, %d", h, e)
	}
	b.same(t)
}

// P7.2: with all of its handle's bits, and each other one of the 32, an object is named by its own handle alone; alive, as a zombie, and when it is freed by none.
func TestOneBitMore(t *testing.T) {
	for _, age := range []int{0, 1, 1 << 19, 1<<20 - 2, 1<<20 - 1} {
		for _, place := range []int{0, 1, 128, 255} {
			b := made(t)
			for p := range place {
				puts(t, b.t, api.Object{}, api.Handle(p))
				b.put(api.Object{})
			}
			b.doAge(t, place, age)
			h, _ := b.doPut(t, api.Object{Kind: 3, At: 5, Factory: 7})
			if h != name(place, age) {
				t.Fatalf("Put = %d, not of the place %d, the age %d", h, place, age)
			}
			// Alone, since flipped bits of the place else name another one.
			for p := range place {
				b.doKill(t, api.Handle(p))
				b.doFree(t, api.Handle(p))
			}
			for range 3 {
				for bit := range 32 {
					b.namesNothing(t, h^1<<bit)
				}
				if b.doKill(t, h) != api.OK {
					b.doFree(t, h)
				}
			}
			b.namesNothing(t, h)
		}
	}
}

// P7.1, P7.2: with any of the bits that are 0 in a handle it names nothing, and names no zombie.
func TestOtherBits(t *testing.T) {
	var s steps = 73
	b := made(t)
	for _, age := range []int{0, 9, 1<<20 - 1} {
		b.doAge(t, 0, age)
		h, _ := b.doPut(t, s.object())
		for more := api.Handle(1); more < 16; more++ {
			b.namesNothing(t, h|more<<28)
		}
		b.doKill(t, h)
		for more := api.Handle(1); more < 16; more++ {
			b.namesNothing(t, h|more<<28)
		}
		b.doFree(t, h)
	}
	// The place 0 is worn out, and its age isn't one more.
	b.namesNothing(t, 1<<28)
	b.namesNothing(t, name(0, 1<<20-1))
}

// P7.1, P7.2: a handle of another age than its place's names nothing, whether the place is empty, live or a zombie.
func TestAnotherAge(t *testing.T) {
	b := made(t)
	b.doAge(t, 0, 1000)
	other := []int{0, 1, 998, 999, 1001, 1002, 1000 ^ 1<<19, 1000 + 1<<10, 1<<20 - 1}
	for range 3 {
		for _, age := range other {
			b.namesNothing(t, name(0, age))
		}
		if _, e := b.get(name(0, 1000)); e != api.OK {
			b.doPut(t, api.Object{Kind: api.Gate, At: 64})
		} else {
			b.doKill(t, name(0, 1000))
		}
	}
}

// P7.1, P7.2: the handle that an empty place would have next names nothing, nor does one of a place that was never used.
func TestEmptyPlace(t *testing.T) {
	b := made(t)
	for _, h := range []api.Handle{0, 1, 255, 256, 1<<28 - 1, 1 << 28, 1<<32 - 1} {
		b.namesNothing(t, h)
	}
	for round := range 3 {
		h := name(0, round)
		b.namesNothing(t, h)
		b.doPut(t, api.Object{Kind: api.Irq})
		b.doKill(t, h)
		b.doFree(t, h)
		b.namesNothing(t, h)
		b.namesNothing(t, h+256)
	}
}

// P7.1, P7.2: a zombie isn't got, nor killed again; it is told by Peek, and is freed once.
func TestZombie(t *testing.T) {
	x := handle.New()
	o := api.Object{Kind: api.Thread, At: 320, Factory: 2}
	puts(t, x, o, 0)
	if e := x.Kill(0); e != api.OK {
		t.Fatalf("Kill = %d", e)
	}
	for range 2 {
		if got, e := x.Get(0); got != (api.Object{}) || e != api.ErrCap {
			t.Fatalf("Get = %v, %d", got, e)
		}
		if e := x.Kill(0); e != api.ErrCap {
			t.Fatalf("Kill = %d", e)
		}
		if got, e := x.Peek(0); got != o || e != api.OK {
			t.Fatalf("Peek = %v, %d", got, e)
		}
	}
	if !slices.Equal(x.Zombies(), []api.Handle{0}) || len(x.Live()) != 0 || x.Room() != 255 {
		t.Fatalf("Zombies() = %v, Live() = %v, Room() = %d", x.Zombies(), x.Live(), x.Room())
	}
	// A zombie's place isn't empty, and so it isn't used.
	puts(t, x, api.Object{}, 1)
	if got, e := x.Free(0); got != o || e != api.OK {
		t.Fatalf("Free = %v, %d", got, e)
	}
	if got, e := x.Free(0); got != (api.Object{}) || e != api.ErrCap {
		t.Fatalf("Free again = %v, %d", got, e)
	}
	puts(t, x, api.Object{}, 256)
}

// P7.2: a live one isn't freed, and stays as it is.
func TestFreeOfALiveOne(t *testing.T) {
	b := made(t)
	o := api.Object{Kind: api.Frame, At: 1024, Factory: 1}
	h, _ := b.doPut(t, o)
	for range 2 {
		if got, e := b.t.Free(h); got != (api.Object{}) || e != api.ErrCap {
			t.Fatalf("Free = %v, %d", got, e)
		}
		b.same(t)
		gets(t, b.t, h, o)
	}
	if b.doKill(t, h) != api.OK || b.doFree(t, h) != api.OK {
		t.Fatal("it can't be killed and freed any more")
	}
}

// P7.2, P7.3: an old handle touches neither the object nor the zombie that has its place now; freed twice, the place's age is one more, not two.
func TestOldHandleOfAPlacePutAnew(t *testing.T) {
	b := made(t)
	o := api.Object{Kind: api.Gate, At: 96, Factory: 3}
	first, _ := b.doPut(t, api.Object{Kind: api.Task})
	b.doKill(t, first)
	b.doFree(t, first)
	b.namesNothing(t, first)
	second, _ := b.doPut(t, o)
	if second != 256 {
		t.Fatalf("Put = %d", second)
	}
	b.namesNothing(t, first)
	gets(t, b.t, second, o)
	b.doKill(t, second)
	b.namesNothing(t, first)
	if got, e := b.t.Peek(second); got != o || e != api.OK {
		t.Fatalf("Peek = %v, %d", got, e)
	}
	b.doFree(t, second)
	b.namesNothing(t, first)
	b.namesNothing(t, second)
	puts(t, b.t, o, 512)
}

// Rule 2: what answers an error has changed nothing: all that is told stays, and so do the ages, which all that is put behind it tells.
func TestErrorsChangeNothing(t *testing.T) {
	for seed := range steps(4) {
		s := seed + 74
		b := made(t)
		for range 300 {
			b.step(t, &s)
		}
		if seed%2 == 1 {
			b.fill(t, &s)
		}
		for place := range 256 {
			for _, h := range []api.Handle{b.now(place) - 256, b.now(place) + 256, b.now(place) ^ 1<<31} {
				b.doKill(t, h)
				b.doFree(t, h)
			}
			if x, ok := b.things[b.now(place)]; ok && x.dead {
				b.doKill(t, b.now(place))
			} else {
				b.doFree(t, b.now(place))
			}
			if !b.empty(place) {
				b.doAge(t, place, 5)
			}
			for _, age := range noAges {
				b.doAge(t, place, age)
			}
		}
		if b.room() == 0 {
			b.doPut(t, s.object())
		}
		b.same(t)
		b.fill(t, &s)
		b.clear(t)
	}
}

// P7.1 to P7.3: long rows of mixed steps, right and wrong: at each step the answers are the model's, and so is all that is told.
func TestLikeTheModel(t *testing.T) {
	seen := map[api.Errno]int{}
	for seed := range steps(8) {
		s := seed
		b := made(t)
		if seed%2 == 1 {
			b.fill(t, &s)
		}
		for range 800 {
			seen[b.step(t, &s)]++
			b.same(t)
		}
	}
	for _, e := range []api.Errno{api.OK, api.ErrCap, api.ErrFull} {
		if seen[e] < 50 {
			t.Errorf("the error %d was told %d times only", e, seen[e])
		}
	}
}

// step does one step to both; most are right ones.
func (b *both) step(t *testing.T, s *steps) api.Errno {
	t.Helper()
	h := b.now(s.next(256))
	if l := slices.Concat(b.list(true), b.list(true), b.list(false)); len(l) > 0 && s.next(4) > 0 {
		h = l[s.next(len(l))]
	}
	if s.next(10) == 0 {
		h ^= 1 << s.next(32)
	}
	switch x := s.next(20); {
	case x < 8:
		_, e := b.doPut(t, s.object())
		return e
	case x < 13:
		return b.doKill(t, h)
	case x < 17:
		return b.doFree(t, h)
	case x < 19:
		b.told(t, h)
		_, e := b.get(h)
		return e
	}
	edge := []int{-1, 0, 1, 2, s.next(1 << 20), 1<<20 - 2, 1<<20 - 1, 1<<20 - 1, 1 << 20}
	b.doAge(t, s.next(260)-2, edge[s.next(len(edge))])
	return api.OK
}

// P7.2, rule 4: Live and Zombies are new memory each time, their spare room too.
func TestListsAreNewMemory(t *testing.T) {
	var s steps = 75
	b := made(t)
	for i := range api.Handle(9) {
		b.doPut(t, s.object())
		b.doKill(t, i*i%8)
	}
	for _, list := range []func() []api.Handle{b.t.Live, b.t.Zombies} {
		first, second := list(), list()
		if len(second) < 3 {
			t.Fatalf("the list is %v", second)
		}
		want := slices.Clone(second)
		spoil(first)
		if !slices.Equal(second, want) {
			t.Errorf("the second list is %v, not %v", second, want)
		}
		b.same(t)
	}
	live, zombies := b.t.Live(), b.t.Zombies()
	spoil(live)
	spoil(zombies)
	b.fill(t, &s)
	b.clear(t)
	for _, h := range slices.Concat(live[:cap(live)], zombies[:cap(zombies)]) {
		if h != spoilt {
			t.Fatalf("a list of before has %d now", h)
		}
	}
}

// spoilt stands for what nobody else wrote.
const spoilt = 0xdeadbeef

func spoil(l []api.Handle) {
	l = l[:cap(l)]
	for i := range l {
		l[i] = spoilt
	}
}

// P7.2: a nil table answers ErrArg, 0, none, false, whatever it is asked.
func TestNilTable(t *testing.T) {
	var x *handle.Table
	if h, e := x.Put(api.Object{Kind: 1, At: 64}); h != 0 || e != api.ErrArg {
		t.Errorf("Put = %d, %d", h, e)
	}
	for _, h := range []api.Handle{0, 1, 255, 256, 1<<28 - 1, 1 << 28, 1<<32 - 1} {
		if o, e := x.Get(h); o != (api.Object{}) || e != api.ErrArg {
			t.Errorf("Get(%d) = %v, %d", h, o, e)
		}
		if e := x.Kill(h); e != api.ErrArg {
			t.Errorf("Kill(%d) = %d", h, e)
		}
		if o, e := x.Free(h); o != (api.Object{}) || e != api.ErrArg {
			t.Errorf("Free(%d) = %v, %d", h, o, e)
		}
		if o, e := x.Peek(h); o != (api.Object{}) || e != api.ErrArg {
			t.Errorf("Peek(%d) = %v, %d", h, o, e)
		}
	}
	if x.Room() != 0 || len(x.Live()) != 0 || len(x.Zombies()) != 0 {
		t.Errorf("Room() = %d, Live() = %v, Zombies() = %v", x.Room(), x.Live(), x.Zombies())
	}
	for _, place := range []int{math.MinInt, -1, 0, 255, 256, math.MaxInt} {
		for _, age := range []int{-1, 0, 5, 1<<20 - 1, 1 << 20} {
			if x.Age(place, age) {
				t.Errorf("Age(%d, %d) is true", place, age)
			}
		}
	}
}

// Two tables have nothing in common.
func TestTwoTables(t *testing.T) {
	a, b := made(t), made(t)
	var s steps = 76
	for range 400 {
		a.step(t, &s)
		b.same(t)
		b.step(t, &s)
		a.same(t)
	}
}
