package arena_test

import (
	"bytes"
	"math"
	"slices"
	"testing"

	"quartermaster/api"
	"quartermaster/arena"
)

const size = api.LeastMem

// painted is an arena in which each byte differs from its neighbours, and the same bytes as a list.
func painted(t *testing.T) (*arena.Arena, []byte) {
	t.Helper()
	a := arena.New(size)
	if a == nil {
		t.Fatal("New(LeastMem) is nil")
	}
	m := make([]byte, size)
	for i := range m {
		m[i] = byte(i*7 + i>>8*13 + 1)
	}
	if e := a.Write(0, m); e != api.OK {
		t.Fatalf("Write of the whole arena: %d", e)
	}
	return a, m
}

// holds fails unless the arena's bytes are those of m.
func holds(t *testing.T, a *arena.Arena, m []byte, after string, args ...any) {
	t.Helper()
	b, e := a.Read(0, len(m))
	if e != api.OK {
		t.Fatalf("Read of the whole arena: %d", e)
	}
	if bytes.Equal(b, m) {
		return
	}
	for i := range m {
		if b[i] != m[i] {
			t.Fatalf("after "+after+": byte %d is %d, not %d", append(args, i, b[i], m[i])...)
		}
	}
	t.Fatalf("after "+after+": %d bytes, not %d", append(args, len(b), len(m))...)
}

// wordOf is the word that the bytes of m from at on are, worked out by sums.
func wordOf(m []byte, at int) uint64 {
	var x uint64
	for i := 7; i >= 0; i-- {
		x = x*256 + uint64(m[at+i])
	}
	return x
}

// P1.1: New answers an arena of each power of two from LeastMem to GreatMem. (The greatest comes first: memory that wasn't used before isn't cleared, and costs nothing.)
func TestNewOfEachSize(t *testing.T) {
	for n := api.GreatMem; n >= api.LeastMem; n /= 2 {
		a := arena.New(n)
		if a == nil {
			t.Fatalf("New(%d) is nil", n)
		}
		if a.Size() != n {
			t.Errorf("New(%d).Size() = %d", n, a.Size())
		}
		if x, e := a.Load(n - 8); x != 0 || e != api.OK {
			t.Errorf("New(%d).Load of the last word = %d, %d", n, x, e)
		}
		if e := a.Store(n-8, math.MaxUint64); e != api.OK {
			t.Errorf("New(%d).Store of the last word = %d", n, e)
		}
		if x, e := a.Load(n - 8); x != math.MaxUint64 || e != api.OK {
			t.Errorf("New(%d).Load of the stored last word = %d, %d", n, x, e)
		}
		if x, e := a.Load(n); x != 0 || e != api.ErrRange {
			t.Errorf("New(%d).Load behind the end = %d, %d", n, x, e)
		}
	}
}

// P1.1: New answers nil of another size.
func TestNewOfWrongSize(t *testing.T) {
	for _, n := range []int{
		0, 1, 2, 8, 1024, -1, -size, -api.GreatMem,
		size / 2, size - 1, size + 1, size + 8, size + 1024, 3 * size / 2, 3 * size, 5 * size, 7 * size,
		api.GreatMem - 1, api.GreatMem - 8, api.GreatMem + 1, api.GreatMem / 2 * 3, api.GreatMem * 2, api.GreatMem * 3,
		1 << 32, 1<<32 + size, 1 << 62, math.MaxInt, math.MaxInt - 1, math.MinInt, math.MinInt + 1, math.MinInt + size,
	} {
		if a := arena.New(n); a != nil {
			t.Errorf("New(%d) isn't nil", n)
		}
	}
}

// P1.1: all bytes are 0 at first, also where an earlier arena held others.
func TestNewIsZero(t *testing.T) {
	for range 4 {
		a := arena.New(size)
		holds(t, a, make([]byte, size), "New")
		if e := a.Fill(0, size, 0xff); e != api.OK {
			t.Fatalf("Fill = %d", e)
		}
	}
}

// P1.1: what is done to one arena isn't seen in another one.
func TestArenasApart(t *testing.T) {
	a, m := painted(t)
	b := arena.New(size)
	holds(t, b, make([]byte, size), "writing to another arena")
	if e := b.Fill(0, size, 9); e != api.OK {
		t.Fatalf("Fill = %d", e)
	}
	holds(t, a, m, "filling another arena")
}

// P1.1: Size stays what it was, whatever is done.
func TestSizeStays(t *testing.T) {
	a := arena.New(2 * size)
	a.Store(0, 1, 2)
	a.Store(2*size, 3)
	a.Write(2*size-1, []byte{1, 2})
	a.Fill(0, 2*size, 4)
	if n := a.Size(); n != 2*size {
		t.Errorf("Size() = %d", n)
	}
}

// P1.1: the document's example; the lowest byte stands first.
func TestStoreExample(t *testing.T) {
	a := arena.New(size)
	if e := a.Store(8, 258); e != api.OK {
		t.Fatalf("Store(8, 258) = %d", e)
	}
	b, e := a.Read(0, 24)
	if e != api.OK || !bytes.Equal(b, []byte{0, 0, 0, 0, 0, 0, 0, 0, 2, 1, 0, 0, 0, 0, 0, 0, 0, 0, 0, 0, 0, 0, 0, 0}) {
		t.Errorf("Read(0, 24) = %v, %d", b, e)
	}
}

// P1.1: each of a word's eight bytes has its place, in storing and in loading.
func TestBytesOfWord(t *testing.T) {
	const x = 0xf1e2d3c4b5a69788
	want := []byte{0x88, 0x97, 0xa6, 0xb5, 0xc4, 0xd3, 0xe2, 0xf1}
	a := arena.New(size)
	if e := a.Store(40, x); e != api.OK {
		t.Fatalf("Store = %d", e)
	}
	if b, e := a.Read(40, 8); e != api.OK || !bytes.Equal(b, want) {
		t.Errorf("Read(40, 8) = %x, %d", b, e)
	}
	if e := a.Write(48, want); e != api.OK {
		t.Fatalf("Write = %d", e)
	}
	if y, e := a.Load(48); y != x || e != api.OK {
		t.Errorf("Load(48) = %x, %d", y, e)
	}
}

// P1.1: each bit of a word is stored and loaded.
func TestBitsOfWord(t *testing.T) {
	a := arena.New(size)
	for i := range 64 {
		if e := a.Store(8*i, 1<<i); e != api.OK {
			t.Fatalf("Store = %d", e)
		}
	}
	for i := range 64 {
		if x, e := a.Load(8 * i); x != 1<<i || e != api.OK {
			t.Errorf("Load(%d) = %x, %d", 8*i, x, e)
		}
	}
}

// P1.1, P1.3: words stand one behind the other, and all beside them stays.
func TestStoreMany(t *testing.T) {
	for _, at := range []int{0, 8, 1024, 32768, size - 40, size - 32} {
		a, m := painted(t)
		l := []uint64{3, math.MaxUint64, 0, 1 << 63}
		if e := a.Store(at, l...); e != api.OK {
			t.Fatalf("Store(%d, 4 words) = %d", at, e)
		}
		copy(m[at:], []byte{3, 0, 0, 0, 0, 0, 0, 0, 255, 255, 255, 255, 255, 255, 255, 255, 0, 0, 0, 0, 0, 0, 0, 0, 0, 0, 0, 0, 0, 0, 0, 128})
		holds(t, a, m, "Store at %d", at)
		for i, x := range l {
			if y, e := a.Load(at + 8*i); y != x || e != api.OK {
				t.Errorf("Load(%d) = %d, %d", at+8*i, y, e)
			}
		}
	}
}

// P1.1: as many words as there is room for are stored; one more is ErrRange.
func TestStoreWhole(t *testing.T) {
	a := arena.New(size)
	l := make([]uint64, size/8)
	for i := range l {
		l[i] = uint64(i) * 0x9e3779b97f4a7c15
	}
	if e := a.Store(0, l...); e != api.OK {
		t.Fatalf("Store of the whole = %d", e)
	}
	for i, x := range l {
		if y, e := a.Load(8 * i); y != x || e != api.OK {
			t.Fatalf("Load(%d) = %d, %d", 8*i, y, e)
		}
	}
	m, _ := a.Read(0, size)
	if e := a.Store(0, make([]uint64, size/8+1)...); e != api.ErrRange {
		t.Errorf("Store of a word too many = %d", e)
	}
	if e := a.Store(8, make([]uint64, size/8)...); e != api.ErrRange {
		t.Errorf("Store that goes a word beyond = %d", e)
	}
	holds(t, a, m, "Stores that are too long")
}

// addresses are those at which words are asked, and what one word there comes to.
var addresses = []struct {
	at int
	e  api.Errno
}{
	{0, api.OK}, {8, api.OK}, {1024, api.OK}, {size - 16, api.OK}, {size - 8, api.OK},
	{1, api.ErrAlign}, {2, api.ErrAlign}, {3, api.ErrAlign}, {4, api.ErrAlign}, {5, api.ErrAlign}, {6, api.ErrAlign}, {7, api.ErrAlign},
	{9, api.ErrAlign}, {12, api.ErrAlign}, {1023, api.ErrAlign}, {size - 9, api.ErrAlign}, {size - 12, api.ErrAlign},
	{size - 7, api.ErrRange}, {size - 4, api.ErrRange}, {size - 1, api.ErrRange},
	{size, api.ErrRange}, {size + 1, api.ErrRange}, {size + 8, api.ErrRange}, {2 * size, api.ErrRange},
	{-1, api.ErrRange}, {-4, api.ErrRange}, {-7, api.ErrRange}, {-8, api.ErrRange}, {-16, api.ErrRange}, {-size, api.ErrRange},
	{1 << 31, api.ErrRange}, {1 << 32, api.ErrRange}, {1<<32 + 8, api.ErrRange}, {1 << 62, api.ErrRange},
	{math.MaxInt, api.ErrRange}, {math.MaxInt - 7, api.ErrRange}, {math.MaxInt - 8, api.ErrRange}, {math.MaxInt - 15, api.ErrRange},
	{math.MinInt, api.ErrRange}, {math.MinInt + 4, api.ErrRange}, {math.MinInt + 8, api.ErrRange},
}

// P1.1: Load is the word, or 0 beside ErrRange or ErrAlign; it changes nothing.
func TestLoadEdges(t *testing.T) {
	a, m := painted(t)
	for _, c := range addresses {
		var want uint64
		if c.e == api.OK {
			want = wordOf(m, c.at)
		}
		if x, e := a.Load(c.at); x != want || e != c.e {
			t.Errorf("Load(%d) = %x, %d, not %x, %d", c.at, x, e, want, c.e)
		}
	}
	holds(t, a, m, "Loads")
}

// P1.1, P1.3: Store turns its word alone, and nothing beside ErrRange or ErrAlign.
func TestStoreEdges(t *testing.T) {
	for _, c := range addresses {
		a, m := painted(t)
		if e := a.Store(c.at, 0x0807060504030201); e != c.e {
			t.Errorf("Store(%d) = %d, not %d", c.at, e, c.e)
		}
		if c.e == api.OK {
			copy(m[c.at:], []byte{1, 2, 3, 4, 5, 6, 7, 8})
		}
		holds(t, a, m, "Store at %d", c.at)
	}
}

// P1.1: of several words that don't all fit, none is stored.
func TestStorePartly(t *testing.T) {
	for _, c := range []struct {
		at, n int
		e     api.Errno
	}{
		{size - 8, 2, api.ErrRange}, {size - 16, 3, api.ErrRange}, {size, 1, api.ErrRange}, {-8, 2, api.ErrRange}, {-8, 3, api.ErrRange},
		{4, 3, api.ErrAlign}, {size - 20, 2, api.ErrAlign}, {size - 12, 2, api.ErrRange}, {size - 20, 3, api.ErrRange},
		{math.MaxInt - 7, 2, api.ErrRange}, {math.MinInt, 2, api.ErrRange},
	} {
		a, m := painted(t)
		if e := a.Store(c.at, make([]uint64, c.n)...); e != c.e {
			t.Errorf("Store(%d, %d words) = %d, not %d", c.at, c.n, e, c.e)
		}
		holds(t, a, m, "Store of %d words at %d", c.n, c.at)
	}
}

// P1.1: no words are a range of no bytes, which lies in the arena up to its end; its address is a word's all the same.
func TestStoreNone(t *testing.T) {
	a, m := painted(t)
	for _, c := range []struct {
		at int
		e  api.Errno
	}{
		{0, api.OK}, {8, api.OK}, {size - 8, api.OK}, {size, api.OK},
		{1, api.ErrAlign}, {4, api.ErrAlign}, {size - 1, api.ErrAlign}, {size - 4, api.ErrAlign},
		{size + 1, api.ErrRange}, {size + 8, api.ErrRange}, {-1, api.ErrRange}, {-8, api.ErrRange},
		{math.MaxInt, api.ErrRange}, {math.MaxInt - 7, api.ErrRange}, {math.MinInt, api.ErrRange},
	} {
		for _, l := range [][]uint64{nil, {}} {
			if e := a.Store(c.at, l...); e != c.e {
				t.Errorf("Store(%d) of no words = %d, not %d", c.at, e, c.e)
			}
		}
	}
	holds(t, a, m, "Stores of no words")
}

// ranges are those that are asked for, and what they come to.
var ranges = []struct {
	at, n int
	e     api.Errno
}{
	{0, 0, api.OK}, {0, 1, api.OK}, {1, 1, api.OK}, {3, 5, api.OK}, {7, 2, api.OK}, {8, 8, api.OK}, {1000, 100, api.OK},
	{0, size, api.OK}, {1, size - 1, api.OK}, {size - 1, 1, api.OK}, {size - 8, 8, api.OK}, {size - 13, 13, api.OK},
	{5, 0, api.OK}, {size - 1, 0, api.OK}, {size, 0, api.OK},
	{0, size + 1, api.ErrRange}, {1, size, api.ErrRange}, {size - 1, 2, api.ErrRange}, {size - 8, 9, api.ErrRange}, {size, 1, api.ErrRange},
	{size + 1, 0, api.ErrRange}, {size + 1, 1, api.ErrRange}, {2 * size, 0, api.ErrRange},
	{-1, 0, api.ErrRange}, {-1, 1, api.ErrRange}, {-1, 2, api.ErrRange}, {-8, 16, api.ErrRange}, {-size, size, api.ErrRange}, {-size, 2 * size, api.ErrRange},
}

// rangesOfNumbers are further ones, of a number of bytes that no list has.
var rangesOfNumbers = []struct {
	at, n int
	e     api.Errno
}{
	{0, -1, api.ErrRange}, {1, -1, api.ErrRange}, {8, -8, api.ErrRange}, {size, -1, api.ErrRange}, {size, -size, api.ErrRange}, {size + 1, -1, api.ErrRange}, {-1, -1, api.ErrRange},
	{1, math.MaxInt, api.ErrRange}, {math.MaxInt, 1, api.ErrRange}, {math.MaxInt, math.MaxInt, api.ErrRange}, {8, math.MaxInt - 7, api.ErrRange}, {size, math.MaxInt, api.ErrRange}, {size, math.MaxInt - size + 1, api.ErrRange},
	{0, math.MaxInt, api.ErrRange}, {0, math.MinInt, api.ErrRange}, {math.MinInt, 0, api.ErrRange}, {math.MinInt, math.MinInt, api.ErrRange}, {math.MinInt, math.MaxInt, api.ErrRange}, {math.MaxInt, math.MinInt, api.ErrRange}, {-1, math.MinInt, api.ErrRange}, {size, math.MinInt, api.ErrRange}, {-1, math.MaxInt, api.ErrRange},
	{1 << 62, 1 << 62, api.ErrRange}, {1 << 62, -1 << 62, api.ErrRange}, {-1 << 62, 1 << 62, api.ErrRange}, {0, 1 << 32, api.ErrRange}, {1 << 32, 0, api.ErrRange}, {1 << 32, 1, api.ErrRange}, {0, 1<<32 + 1, api.ErrRange}, {1 << 31, 1 << 31, api.ErrRange},
}

// P1.2: Read is so many bytes, or none beside ErrRange; it changes nothing.
func TestReadEdges(t *testing.T) {
	a, m := painted(t)
	for _, c := range slices.Concat(ranges, rangesOfNumbers) {
		var want []byte
		if c.e == api.OK {
			want = m[c.at : c.at+c.n]
		}
		if b, e := a.Read(c.at, c.n); e != c.e || !bytes.Equal(b, want) {
			t.Errorf("Read(%d, %d) = %d bytes, %d, not %d bytes, %d", c.at, c.n, len(b), e, len(want), c.e)
		}
	}
	holds(t, a, m, "Reads")
}

// P1.2, P1.3: Write turns its bytes alone, and nothing beside ErrRange.
func TestWriteEdges(t *testing.T) {
	for _, c := range ranges {
		a, m := painted(t)
		b := make([]byte, c.n)
		for i := range b {
			b[i] = byte(i*31 + 5)
		}
		if e := a.Write(c.at, b); e != c.e {
			t.Errorf("Write(%d, %d bytes) = %d, not %d", c.at, c.n, e, c.e)
		}
		if c.e == api.OK {
			copy(m[c.at:], b)
		}
		holds(t, a, m, "Write of %d bytes at %d", c.n, c.at)
	}
	a, m := painted(t)
	for _, at := range []int{1 << 32, 1 << 62, math.MaxInt, math.MaxInt - 1, math.MinInt, math.MinInt + 1} {
		for _, b := range [][]byte{nil, {1}, {1, 2}, make([]byte, size)} {
			if e := a.Write(at, b); e != api.ErrRange {
				t.Errorf("Write(%d, %d bytes) = %d", at, len(b), e)
			}
		}
	}
	holds(t, a, m, "Writes far away")
}

// P1.2, P1.3: Fill turns its bytes alone, to that byte, and nothing beside ErrRange.
func TestFillEdges(t *testing.T) {
	for i, c := range slices.Concat(ranges, rangesOfNumbers) {
		a, m := painted(t)
		x := []byte{0, 1, 127, 128, 255}[i%5]
		if e := a.Fill(c.at, c.n, x); e != c.e {
			t.Errorf("Fill(%d, %d, %d) = %d, not %d", c.at, c.n, x, e, c.e)
		}
		if c.e == api.OK {
			for j := range c.n {
				m[c.at+j] = x
			}
		}
		holds(t, a, m, "Fill of %d bytes at %d", c.n, c.at)
	}
}

// P1.2: nil and empty lists are one.
func TestWriteNone(t *testing.T) {
	a, m := painted(t)
	for _, b := range [][]byte{nil, {}} {
		for _, at := range []int{0, 3, size - 1, size} {
			if e := a.Write(at, b); e != api.OK {
				t.Errorf("Write(%d) of no bytes = %d", at, e)
			}
		}
		for _, at := range []int{-1, size + 1} {
			if e := a.Write(at, b); e != api.ErrRange {
				t.Errorf("Write(%d) of no bytes = %d", at, e)
			}
		}
	}
	holds(t, a, m, "Writes of no bytes")
}

// P1.2: ranges end at this arena's size, not at the least one.
func TestRangesOfGreaterArena(t *testing.T) {
	a := arena.New(4 * size)
	if e := a.Fill(size, 3*size, 6); e != api.OK {
		t.Errorf("Fill = %d", e)
	}
	if b, e := a.Read(4*size-2, 2); e != api.OK || !bytes.Equal(b, []byte{6, 6}) {
		t.Errorf("Read = %v, %d", b, e)
	}
	if e := a.Write(4*size-1, []byte{7}); e != api.OK {
		t.Errorf("Write = %d", e)
	}
	if x, e := a.Load(4*size - 8); x != 0x0706060606060606 || e != api.OK {
		t.Errorf("Load = %x, %d", x, e)
	}
	if e := a.Write(4*size-1, []byte{7, 7}); e != api.ErrRange {
		t.Errorf("Write beyond = %d", e)
	}
	if e := a.Fill(size, 3*size+1, 6); e != api.ErrRange {
		t.Errorf("Fill beyond = %d", e)
	}
	if b, e := a.Read(4*size, 1); e != api.ErrRange || len(b) != 0 {
		t.Errorf("Read beyond = %v, %d", b, e)
	}
}

// P1.1, P1.2: a nil arena has the size 0, and answers ErrArg whatever else is wrong.
func TestNilArena(t *testing.T) {
	var a *arena.Arena
	if n := a.Size(); n != 0 {
		t.Errorf("Size() = %d", n)
	}
	for _, at := range []int{0, 1, 8, size, -1, -8, math.MaxInt, math.MinInt} {
		if x, e := a.Load(at); x != 0 || e != api.ErrArg {
			t.Errorf("Load(%d) = %d, %d", at, x, e)
		}
		for _, l := range [][]uint64{nil, {1}, {1, 2}} {
			if e := a.Store(at, l...); e != api.ErrArg {
				t.Errorf("Store(%d, %d words) = %d", at, len(l), e)
			}
		}
		for _, b := range [][]byte{nil, {1}, {1, 2}} {
			if e := a.Write(at, b); e != api.ErrArg {
				t.Errorf("Write(%d, %d bytes) = %d", at, len(b), e)
			}
		}
		for _, n := range []int{0, 1, -1, math.MaxInt, math.MinInt} {
			if b, e := a.Read(at, n); len(b) != 0 || e != api.ErrArg {
				t.Errorf("Read(%d, %d) = %v, %d", at, n, b, e)
			}
			if e := a.Fill(at, n, 1); e != api.ErrArg {
				t.Errorf("Fill(%d, %d) = %d", at, n, e)
			}
		}
	}
}

// P1.2: what Read answers shares no memory with the arena or with another answer, its spare room included.
func TestReadIsNew(t *testing.T) {
	a, m := painted(t)
	for _, c := range []struct{ at, n int }{{0, 0}, {0, 1}, {8, 8}, {100, 33}, {size - 5, 5}, {size, 0}, {0, size}} {
		one, _ := a.Read(c.at, c.n)
		two, _ := a.Read(c.at, c.n)
		whole := one[:cap(one)]
		for i := range whole {
			whole[i] ^= 0xff
		}
		holds(t, a, m, "changing what Read(%d, %d) answered", c.at, c.n)
		if !bytes.Equal(two, m[c.at:c.at+c.n]) {
			t.Errorf("two answers of Read(%d, %d) share memory", c.at, c.n)
		}
		a.Fill(c.at, c.n, 77)
		if !bytes.Equal(two, m[c.at:c.at+c.n]) {
			t.Errorf("Fill turns what Read(%d, %d) answered", c.at, c.n)
		}
		a.Write(0, m)
	}
}

// P1.2: what Write is given is neither kept nor changed, its spare room included.
func TestWriteKeepsNothing(t *testing.T) {
	a, m := painted(t)
	room := []byte("abcdefghijklmnop")
	b := room[4:9]
	if e := a.Write(21, b); e != api.OK {
		t.Fatalf("Write = %d", e)
	}
	copy(m[21:], "efghi")
	a.Write(size-4, b)
	if string(room) != "abcdefghijklmnop" {
		t.Errorf("Write turned what it was given: %q", room)
	}
	for i := range room {
		room[i] = 'z'
	}
	holds(t, a, m, "changing what Write was given")
	a.Fill(0, 100, 3)
	if !bytes.Equal(room, bytes.Repeat([]byte{'z'}, len(room))) {
		t.Errorf("Fill turns what Write was given: %q", room)
	}
}

// P1.1: what Store is given is neither kept nor changed, its spare room included.
func TestStoreKeepsNothing(t *testing.T) {
	a, m := painted(t)
	room := []uint64{11, 12, 13, 14, 15}
	if e := a.Store(64, room[1:3]...); e != api.OK {
		t.Fatalf("Store = %d", e)
	}
	copy(m[64:], []byte{12, 0, 0, 0, 0, 0, 0, 0, 13, 0, 0, 0, 0, 0, 0, 0})
	a.Store(size-8, room[1:3]...)
	a.Store(4, room[1:3]...)
	if !slices.Equal(room, []uint64{11, 12, 13, 14, 15}) {
		t.Errorf("Store turned what it was given: %d", room)
	}
	for i := range room {
		room[i] = 99
	}
	holds(t, a, m, "changing what Store was given")
	a.Fill(0, 100, 3)
	if !slices.Equal(room, []uint64{99, 99, 99, 99, 99}) {
		t.Errorf("Fill turns what Store was given: %d", room)
	}
}

// steps is a row of numbers that look thrown, the same in each run.
type steps uint64

func (s *steps) next(n int) int {
	*s = *s*6364136223846793005 + 1442695040888963407
	return int((uint64(*s) >> 33) % uint64(n))
}

// P1.3: over many steps, what was stored, written and filled is what is loaded and read, and nothing else turns.
func TestManySteps(t *testing.T) {
	a, m := painted(t)
	s := steps(1)
	for i := range 3000 {
		at, n := s.next(size+64)-32, s.next(40)-2
		switch s.next(3) {
		case 0:
			if s.next(4) > 0 {
				at &^= 7
			}
			storeBoth(t, a, m, at, uint64(s.next(1<<30)), uint64(s.next(1<<30))<<34)
		case 1:
			b := bytes.Repeat([]byte{byte(s.next(256)), byte(i)}, max(n, 0))
			if e := a.Write(at, b); (e == api.OK) != (at >= 0 && at+len(b) <= size) {
				t.Fatalf("Write(%d, %d bytes) = %d", at, len(b), e)
			} else if e == api.OK {
				copy(m[at:], b)
			}
		case 2:
			c := byte(s.next(256))
			if e := a.Fill(at, n, c); (e == api.OK) != (at >= 0 && n >= 0 && at+n <= size) {
				t.Fatalf("Fill(%d, %d) = %d", at, n, e)
			} else if e == api.OK {
				copy(m[at:], bytes.Repeat([]byte{c}, n))
			}
		}
		holds(t, a, m, "step %d", i)
	}
	for at := 0; at < size; at += 8 {
		if x, e := a.Load(at); x != wordOf(m, at) || e != api.OK {
			t.Fatalf("Load(%d) = %x, %d", at, x, e)
		}
	}
}

// storeBoth stores words in the arena and, where the document lets them, in the list.
func storeBoth(t *testing.T, a *arena.Arena, m []byte, at int, l ...uint64) {
	t.Helper()
	want := api.OK
	if at < 0 || at+8*len(l) > size {
		want = api.ErrRange
	} else if at%8 != 0 {
		want = api.ErrAlign
	}
	if e := a.Store(at, l...); e != want {
		t.Fatalf("Store(%d, %d words) = %d, not %d", at, len(l), e, want)
	}
	if want != api.OK {
		return
	}
	for i, x := range l {
		for j := range 8 {
			m[at+8*i+j] = byte(x % 256)
			x /= 256
		}
	}
}
