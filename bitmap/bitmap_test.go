package bitmap_test

import (
	"math"
	"slices"
	"testing"

	"quartermaster/bitmap"
)

const most = 1 << 20

// lengths lie at the edges of words of 64 bits and within them.
var lengths = []int{0, 1, 2, 7, 10, 63, 64, 65, 100, 127, 128, 129, 130, 191, 192, 193}

// model is a map as a list of bools, gone through bit by bit.
type model []bool

func (l model) get(i int) bool { return i >= 0 && i < len(l) && l[i] }

func (l model) set(on bool, which ...int) int {
	turned := 0
	for _, i := range which {
		if i >= 0 && i < len(l) && l[i] != on {
			l[i] = on
			turned++
		}
	}
	return turned
}

func (l model) first(on bool, from int) int {
	for i := range l {
		if i >= from && l[i] == on {
			return i
		}
	}
	return -1
}

func (l model) count() int {
	n := 0
	for _, on := range l {
		if on {
			n++
		}
	}
	return n
}

func (l model) run(on bool, from, n int) bool {
	if from < 0 || n < 0 || from > len(l) || n > len(l)-from {
		return false
	}
	for _, is := range l[from : from+n] {
		if is != on {
			return false
		}
	}
	return true
}

// steps is a row of numbers that look like chance, and are the same at each run.
type steps uint64

func (s *steps) next(n int) int {
	*s = *s*6364136223846793005 + 1442695040888963407
	return int(*s>>33) % n
}

// made is a map of n bits, of which some are on, and the same as a list.
func made(t *testing.T, n int, on ...int) (*bitmap.Map, model) {
	t.Helper()
	m := bitmap.New(n)
	if m == nil {
		t.Fatalf("New(%d) is nil", n)
	}
	l := make(model, n)
	if got, want := m.Set(true, on...), l.set(true, on...); got != want {
		t.Fatalf("Set(true, %v) of %d = %d, not %d", on, n, got, want)
	}
	return m, l
}

// same fails unless each bit, the length, the count and every First are those of the list.
func same(t *testing.T, m *bitmap.Map, l model) {
	t.Helper()
	if m.Len() != len(l) {
		t.Fatalf("Len() = %d, not %d", m.Len(), len(l))
	}
	if m.Count() != l.count() {
		t.Fatalf("Count() of %d bits = %d, not %d", len(l), m.Count(), l.count())
	}
	for i := -2; i < len(l)+66; i++ {
		if m.Get(i) != l.get(i) {
			t.Fatalf("Get(%d) of %d bits = %t", i, len(l), m.Get(i))
		}
		for _, on := range []bool{false, true} {
			if got, want := m.First(on, i), l.first(on, i); got != want {
				t.Fatalf("First(%t, %d) of %d bits = %d, not %d", on, i, len(l), got, want)
			}
		}
	}
}

// sameRuns fails unless every Run is the list's, those that begin or end outside it included.
func sameRuns(t *testing.T, m *bitmap.Map, l model) {
	t.Helper()
	for from := -2; from < len(l)+3; from++ {
		for n := -2; n < len(l)+4; n++ {
			for _, on := range []bool{false, true} {
				if got, want := m.Run(on, from, n), l.run(on, from, n); got != want {
					t.Fatalf("Run(%t, %d, %d) of %d bits = %t", on, from, n, len(l), got)
				}
			}
		}
	}
}

// P2.1: New answers a map of 0 to 2^20 bits, all off.
func TestNewIsAllOff(t *testing.T) {
	for _, n := range append(slices.Clone(lengths), 1000, most-65, most-64, most-63, most-1, most) {
		m := bitmap.New(n)
		if m == nil {
			t.Fatalf("New(%d) is nil", n)
		}
		if m.Len() != n || m.Count() != 0 || m.First(true, 0) != -1 || !m.Run(false, 0, n) {
			t.Errorf("New(%d): Len %d, Count %d, First %d", n, m.Len(), m.Count(), m.First(true, 0))
		}
	}
	for _, n := range lengths {
		m, l := made(t, n)
		same(t, m, l)
		sameRuns(t, m, l)
	}
}

// P2.1: New answers nil of another number.
func TestNewOfAnotherNumberIsNil(t *testing.T) {
	for _, n := range []int{-1, -2, -63, -64, -65, -most, most + 1, most + 64, 2 * most, 1 << 32, math.MaxInt - 63, math.MaxInt, math.MinInt} {
		if bitmap.New(n) != nil {
			t.Errorf("New(%d) isn't nil", n)
		}
	}
}

// P2.1: two maps have nothing in common.
func TestMapsStandAlone(t *testing.T) {
	a, la := made(t, 130, 0, 64, 129)
	b, lb := made(t, 130, 1, 65)
	same(t, a, la)
	same(t, b, lb)
}

// P2.1, P2.3: of each length, each single bit is set and taken away, and no other one turns by it.
func TestSetOfEachBit(t *testing.T) {
	for _, n := range lengths {
		for i := range n {
			m, l := made(t, n, i)
			if !m.Get(i) || m.Count() != 1 {
				t.Fatalf("Set(true, %d) of %d: Get %t, Count %d", i, n, m.Get(i), m.Count())
			}
			same(t, m, l)
			if got := m.Set(true, i); got != 0 {
				t.Fatalf("Set(true, %d) again = %d", i, got)
			}
			if got := m.Set(false, i); got != 1 || m.Get(i) || m.Count() != 0 {
				t.Fatalf("Set(false, %d) = %d, Get %t, Count %d", i, got, m.Get(i), m.Count())
			}
			if got := m.Set(false, i); got != 0 {
				t.Fatalf("Set(false, %d) again = %d", i, got)
			}
			l.set(false, i)
			same(t, m, l)
		}
	}
}

// P2.1: of a map that is all on, each single bit is put off, and no other one turns by it.
func TestSetOffOfEachBit(t *testing.T) {
	for _, n := range lengths {
		for i := range n {
			m, l := made(t, n, all(n)...)
			if got, want := m.Set(false, i), l.set(false, i); got != want {
				t.Fatalf("Set(false, %d) of %d = %d, not %d", i, n, got, want)
			}
			same(t, m, l)
		}
	}
}

func all(n int) []int {
	l := make([]int, n)
	for i := range l {
		l[i] = i
	}
	return l
}

// P2.1: bits that are none don't turn, and take none with them, wherever in the list they stand.
func TestSetOfNone(t *testing.T) {
	none := []int{-1, -2, -63, -64, -65, 130, 131, 191, 192, 1 << 20, 1 << 40, math.MaxInt, math.MinInt}
	for _, on := range []bool{false, true} {
		for _, i := range none {
			m, l := made(t, 130, 0, 63, 64, 129)
			if got := m.Set(on, i); got != 0 {
				t.Errorf("Set(%t, %d) = %d", on, i, got)
			}
			if m.Get(i) {
				t.Errorf("Get(%d) after Set(%t)", i, on)
			}
			same(t, m, l)
			for _, list := range [][]int{{i, 7, 63}, {7, i, 63}, {7, 63, i}} {
				if got, want := m.Set(on, list...), l.set(on, list...); got != want {
					t.Errorf("Set(%t, %v) = %d, not %d", on, list, got, want)
				}
				same(t, m, l)
			}
		}
	}
}

// P2.1: a bit that is given twice in one Set turns once.
func TestSetOfABitTwice(t *testing.T) {
	m, l := made(t, 130)
	for i, x := range []struct {
		on   bool
		list []int
		want int
	}{
		{true, []int{5, 5}, 1},
		{true, []int{5, 6, 5, 6, 129, 129}, 2},
		{false, []int{6, 6, 6}, 1},
		{false, []int{6, 5, 6, 5}, 1},
		{true, []int{64, -1, 64, 130, 64}, 1},
		{false, []int{129, 64, 129, 64}, 2},
	} {
		if got := m.Set(x.on, x.list...); got != x.want {
			t.Errorf("case %d: Set(%t, %v) = %d, not %d", i, x.on, x.list, got, x.want)
		}
		l.set(x.on, x.list...)
		same(t, m, l)
	}
}

// P2.1: no bits, a nil list and an empty one are one: nothing turns.
func TestSetOfNoBits(t *testing.T) {
	for _, on := range []bool{false, true} {
		m, l := made(t, 70, 3, 69)
		if m.Set(on) != 0 || m.Set(on, []int(nil)...) != 0 || m.Set(on, []int{}...) != 0 {
			t.Errorf("Set(%t) of no bits isn't 0", on)
		}
		same(t, m, l)
	}
}

// P2.1: Set neither changes nor keeps the list that it is handed, its spare room included.
func TestSetLeavesItsList(t *testing.T) {
	m, l := made(t, 130)
	room := []int{9, 9, 200, -1, 64, 77, 78}
	before := slices.Clone(room)
	if got := m.Set(true, room[:5]...); got != 2 {
		t.Errorf("Set = %d, not 2", got)
	}
	if !slices.Equal(room, before) {
		t.Errorf("the list is %v after Set", room)
	}
	l.set(true, 9, 64)
	clear(room)
	same(t, m, l)
}

// P2.1: Get is false of none, even where all are on.
func TestGetOfNone(t *testing.T) {
	for _, n := range lengths {
		m, _ := made(t, n, all(n)...)
		for _, i := range []int{-1, -64, n, n + 1, n + 63, n + 64, most, math.MaxInt, math.MinInt} {
			if m.Get(i) {
				t.Errorf("Get(%d) of %d bits that are on", i, n)
			}
		}
		for i := range n {
			if !m.Get(i) {
				t.Errorf("Get(%d) of %d bits that are on is false", i, n)
			}
		}
	}
}

// P2.2: First begins at 0 of below 0, and finds nothing at the end and beyond it.
func TestFirstAtTheEdges(t *testing.T) {
	for _, n := range lengths {
		for _, on := range []bool{false, true} {
			m := bitmap.New(n)
			if on {
				m.Set(true, all(n)...)
			}
			want := 0
			if n == 0 {
				want = -1
			}
			for _, from := range []int{math.MinInt, math.MinInt + 1, -most, -65, -64, -1, 0} {
				if got := m.First(on, from); got != want {
					t.Errorf("First(%t, %d) of %d that are so = %d, not %d", on, from, n, got, want)
				}
				if got := m.First(!on, from); got != -1 {
					t.Errorf("First(%t, %d) of %d that aren't so = %d", !on, from, n, got)
				}
			}
			for _, from := range []int{n, n + 1, n + 62, n + 63, n + 64, n + 65, most, math.MaxInt - 1, math.MaxInt} {
				if m.First(on, from) != -1 || m.First(!on, from) != -1 {
					t.Errorf("First from %d of %d = %d, %d", from, n, m.First(on, from), m.First(!on, from))
				}
			}
			if n > 0 && m.First(on, n-1) != n-1 {
				t.Errorf("First(%t) of the last of %d = %d", on, n, m.First(on, n-1))
			}
		}
	}
}

// P2.2: First finds the one bit that is so, over whole words that aren't.
func TestFirstFarAway(t *testing.T) {
	const n = 1000
	for _, on := range []bool{false, true} {
		for _, at := range []int{0, 1, 62, 63, 64, 65, 127, 128, 500, 511, 512, 639, 640, 998, 999} {
			m := bitmap.New(n)
			if !on {
				m.Set(true, all(n)...)
			}
			if m.Set(on, at) != 1 {
				t.Fatalf("Set(%t, %d) isn't 1", on, at)
			}
			for from := range n + 2 {
				want := at
				if from > at {
					want = -1
				}
				if got := m.First(on, from); got != want {
					t.Fatalf("First(%t, %d), with the bit %d so, = %d", on, from, at, got)
				}
			}
		}
	}
}

// P2.2: Run at the edges that the document names.
func TestRunAtTheEdges(t *testing.T) {
	m, _ := made(t, 130, 0, 63, 64, 129)
	for i, x := range []struct {
		on      bool
		from, n int
		want    bool
	}{
		{true, 0, 1, true}, {true, 0, 2, false}, {true, 63, 2, true}, {true, 62, 3, false}, {true, 63, 3, false},
		{false, 1, 62, true}, {false, 1, 63, false}, {false, 65, 64, true}, {false, 64, 65, false}, {false, 65, 65, false},
		{true, 129, 1, true}, {true, 129, 2, false}, {false, 128, 1, true}, {false, 128, 2, false},
		{true, 0, 0, true}, {false, 0, 0, true}, {true, 1, 0, true}, {false, 63, 0, true},
		{true, 130, 0, true}, {false, 130, 0, true}, {true, 131, 0, false}, {false, 131, 0, false},
		{true, 130, 1, false}, {false, 130, 1, false}, {false, 130, -1, false}, {true, 5, -1, false}, {false, 5, -1, false},
		{false, 5, -5, false}, {false, 5, math.MinInt, false}, {false, 131, -1, false}, {false, 194, -64, false},
		{false, -1, 0, false}, {true, -1, 0, false}, {false, -1, 1, false}, {true, -1, 2, false}, {false, -64, 64, false},
		{false, math.MinInt, 0, false}, {false, math.MinInt, math.MaxInt, false}, {false, math.MinInt, math.MinInt, false},
		{false, 5, math.MaxInt, false}, {false, 1, math.MaxInt, false}, {false, 128, math.MaxInt - 127, false}, {false, 128, math.MaxInt - 126, false},
		{false, math.MaxInt, 0, false}, {false, math.MaxInt, 1, false}, {false, math.MaxInt, 2, false}, {false, math.MaxInt, math.MaxInt, false},
		{false, math.MaxInt, math.MinInt, false}, {true, math.MaxInt, math.MinInt + 1, false}, {false, math.MaxInt, 130, false},
	} {
		if m.Run(x.on, x.from, x.n) != x.want {
			t.Errorf("case %d: Run(%t, %d, %d) = %t", i, x.on, x.from, x.n, !x.want)
		}
	}
}

// P2.2: Run of no bits at each place, and of each length of a map that is all so.
func TestRunOfAll(t *testing.T) {
	for _, n := range lengths {
		for _, on := range []bool{false, true} {
			m, l := made(t, n)
			if on {
				m.Set(true, all(n)...)
				l.set(true, all(n)...)
			}
			sameRuns(t, m, l)
		}
	}
}

// P2.2: one bit that isn't so breaks each run that it lies in, and no other.
func TestRunOverOneBit(t *testing.T) {
	for _, on := range []bool{false, true} {
		for _, at := range []int{0, 1, 62, 63, 64, 65, 127, 128, 129} {
			m, l := made(t, 130)
			if on {
				m.Set(true, all(130)...)
				l.set(true, all(130)...)
			}
			m.Set(!on, at)
			l.set(!on, at)
			sameRuns(t, m, l)
		}
	}
}

// P2.1, P2.2: a nil map has nothing.
func TestNilMap(t *testing.T) {
	var m *bitmap.Map
	if m.Len() != 0 || m.Count() != 0 {
		t.Errorf("nil: Len %d, Count %d", m.Len(), m.Count())
	}
	for _, i := range []int{math.MinInt, -1, 0, 1, 64, math.MaxInt} {
		for _, on := range []bool{false, true} {
			if m.Get(i) || m.Set(on, i) != 0 || m.Set(on, i, 0, i) != 0 || m.First(on, i) != -1 {
				t.Errorf("nil: Get, Set or First of %d", i)
			}
			for _, n := range []int{math.MinInt, -1, 0, 1, math.MaxInt} {
				if m.Run(on, i, n) {
					t.Errorf("nil: Run(%t, %d, %d)", on, i, n)
				}
			}
		}
	}
	if m.Set(true) != 0 || m.Set(false, nil...) != 0 {
		t.Error("nil: Set of no bits")
	}
}

// P2.1, P2.2: a map of no bits isn't nil; it has just the run of none at its beginning.
func TestMapOfNoBits(t *testing.T) {
	m := bitmap.New(0)
	if m == nil {
		t.Fatal("New(0) is nil")
	}
	for _, on := range []bool{false, true} {
		if m.Set(on, 0, 1, -1, 63, 64) != 0 || m.Get(0) || m.Count() != 0 || m.Len() != 0 || m.First(on, 0) != -1 || m.First(on, -1) != -1 {
			t.Error("New(0) has a bit")
		}
		if !m.Run(on, 0, 0) || m.Run(on, 0, 1) || m.Run(on, 1, 0) || m.Run(on, -1, 0) || m.Run(on, 1, -1) {
			t.Error("New(0): Run")
		}
	}
}

// P2.1, P2.2: the greatest map, at both its ends and over its whole.
func TestGreatestMap(t *testing.T) {
	m := bitmap.New(most)
	if m == nil {
		t.Fatal("New(2^20) is nil")
	}
	if got := m.Set(true, 0, most-1, most, -1); got != 2 || m.Count() != 2 {
		t.Errorf("Set = %d, Count %d", got, m.Count())
	}
	if m.First(true, 1) != most-1 || m.First(false, most-1) != -1 || m.First(false, 0) != 1 || m.First(true, most) != -1 {
		t.Error("First")
	}
	if !m.Run(false, 1, most-2) || m.Run(false, 1, most-1) || m.Run(false, 0, most) || !m.Run(true, most, 0) || m.Run(true, most, 1) {
		t.Error("Run")
	}
	if got := m.Set(true, all(most+5)...); got != most-2 || m.Count() != most || !m.Run(true, 0, most) || m.First(false, 0) != -1 {
		t.Errorf("Set of all = %d, Count %d", got, m.Count())
	}
	if got := m.Set(false, all(most+5)...); got != most || m.Count() != 0 || m.First(true, 0) != -1 {
		t.Errorf("Set off of all = %d, Count %d", got, m.Count())
	}
}

// P2.3: Count goes up and down by what Set tells; First's bit is so, and none ahead of it.
func TestWhatFollows(t *testing.T) {
	var s steps = 3
	for _, n := range lengths {
		m, l := made(t, n)
		for range 200 {
			on, list := s.next(2) == 0, make([]int, s.next(9))
			for i := range list {
				list[i] = s.next(n+6) - 3
			}
			before := m.Count()
			turned := m.Set(on, list...)
			if want := l.set(on, list...); turned != want {
				t.Fatalf("Set(%t, %v) of %d = %d, not %d", on, list, n, turned, want)
			}
			if !on {
				turned = -turned
			}
			if m.Count() != before+turned {
				t.Fatalf("Count() = %d, after %d and a turn of %d", m.Count(), before, turned)
			}
			from := s.next(n+6) - 3
			firstIsSo(t, m, on, from)
			firstIsSo(t, m, !on, from)
		}
		same(t, m, l)
		sameRuns(t, m, l)
	}
}

// firstIsSo holds First against Get alone.
func firstIsSo(t *testing.T, m *bitmap.Map, on bool, from int) {
	t.Helper()
	at := m.First(on, from)
	end := at
	if at < 0 {
		end = m.Len()
	} else if at >= m.Len() || at < from || m.Get(at) != on {
		t.Fatalf("First(%t, %d) = %d, which isn't so", on, from, at)
	}
	for i := max(from, 0); i < end; i++ {
		if m.Get(i) == on {
			t.Fatalf("First(%t, %d) = %d, but %d lies ahead of it", on, from, at, i)
		}
	}
}

// What is asked turns nothing.
func TestAskingTurnsNothing(t *testing.T) {
	m, l := made(t, 130, 0, 5, 63, 64, 100, 129)
	same(t, m, l)
	sameRuns(t, m, l)
	same(t, m, l)
}

// The chapter's examples.
func TestExamples(t *testing.T) {
	m := bitmap.New(10)
	if got := m.Set(true, 3, 3, 9); got != 2 {
		t.Errorf("Set(true, 3, 3, 9) of ten = %d", got)
	}
	if got := m.First(true, 4); got != 9 {
		t.Errorf("First(true, 4) = %d", got)
	}
}
