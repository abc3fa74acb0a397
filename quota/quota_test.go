package quota_test

import (
	"math"
	"slices"
	"testing"

	"quartermaster/api"
	"quartermaster/quota"
)

// part is a factory of the model, which stays in its list when it is closed.
type part struct {
	parent, limit, charged int
	closed                 bool
}

// model is a tree as the list of all factories that there ever were, by their numbers.
type model []part

func (m model) has(id int) bool { return id >= 0 && id < len(m) && !m[id].closed }

func (m model) ids() []int {
	var l []int
	for id := range m {
		if m.has(id) {
			l = append(l, id)
		}
	}
	return l
}

func (m model) children(id int) []int {
	return slices.DeleteFunc(m.ids(), func(k int) bool { return m[k].parent != id })
}

func (m model) use(id int) int {
	n := m[id].charged
	for _, k := range m.children(id) {
		n += m[k].limit
	}
	return n
}

// tooMuch holds n against the limit alone first, so that the sum doesn't go round.
func (m model) tooMuch(id, n int) bool {
	return n > m[id].limit || m.use(id)+n > m[id].limit
}

func (m *model) carve(parent, limit int) (int, api.Errno) {
	switch {
	case !m.has(parent):
		return 0, api.ErrNone
	case limit < 0:
		return 0, api.ErrArg
	case m.tooMuch(parent, limit):
		return 0, api.ErrQuota
	case len(m.ids()) == 32:
		return 0, api.ErrFull
	}
	*m = append(*m, part{parent: parent, limit: limit})
	return len(*m) - 1, api.OK
}

func (m model) close(id int) api.Errno {
	switch {
	case !m.has(id):
		return api.ErrNone
	case id == 0:
		return api.ErrArg
	case m.use(id) != 0 || len(m.children(id)) != 0:
		return api.ErrState
	}
	m[id].closed = true
	return api.OK
}

func (m model) charge(id, n int) api.Errno {
	switch {
	case !m.has(id):
		return api.ErrNone
	case n < 0:
		return api.ErrArg
	case m.tooMuch(id, n):
		return api.ErrQuota
	}
	m[id].charged += n
	return api.OK
}

func (m model) refund(id, n int) api.Errno {
	switch {
	case !m.has(id):
		return api.ErrNone
	case n < 0 || n > m[id].charged:
		return api.ErrArg
	}
	m[id].charged -= n
	return api.OK
}

// steps is a row of numbers that look like chance, and are the same at each run.
type steps uint64

func (s *steps) next(n int) int {
	*s = *s*6364136223846793005 + 1442695040888963407
	return int(*s>>33) % n
}

func (s *steps) of(l []int) int { return l[s.next(len(l))] }

// both is a tree and its model.
type both struct {
	*quota.Tree
	model
}

func made(t *testing.T, limit int) *both {
	t.Helper()
	q := quota.New(limit)
	if q == nil {
		t.Fatalf("New(%d) is nil", limit)
	}
	return &both{q, model{{parent: -1, limit: limit}}}
}

// same fails unless all that is told of the tree is what the model has, of closed factories and of such as never were too.
func (b *both) same(t *testing.T) {
	t.Helper()
	if got, want := b.Ids(), b.ids(); !slices.Equal(got, want) {
		t.Fatalf("Ids() = %v, not %v", got, want)
	}
	for id := -2; id < len(b.model)+2; id++ {
		want := [4]int{0, 0, 0, -1}
		if b.has(id) {
			p := b.model[id]
			want = [4]int{p.limit, b.use(id), p.charged, p.parent}
		}
		if got := [4]int{b.Limit(id), b.Use(id), b.Charged(id), b.Parent(id)}; got != want {
			t.Fatalf("of %d: Limit, Use, Charged, Parent = %v, not %v", id, got, want)
		}
	}
}

// within fails unless no use is more than its limit, uses are what they are said to be, and all that is charged is within the root's limit; told by the tree alone.
func within(t *testing.T, q *quota.Tree) {
	t.Helper()
	all := 0
	carved := map[int]int{}
	for _, id := range q.Ids() {
		all += q.Charged(id)
		carved[q.Parent(id)] += q.Limit(id)
	}
	if all > q.Limit(0) {
		t.Fatalf("%d are charged, of %d", all, q.Limit(0))
	}
	for _, id := range q.Ids() {
		if u := q.Use(id); u > q.Limit(id) || u < 0 || q.Charged(id) < 0 || q.Charged(id) > u || u != q.Charged(id)+carved[id] {
			t.Fatalf("Use(%d) = %d of the limit %d, charged %d, carved %d", id, u, q.Limit(id), q.Charged(id), carved[id])
		}
	}
}

// What begins with do is done to both, and fails unless they answer the same, and tell the same behind it.

func (b *both) doCarve(t *testing.T, parent, limit int) (int, api.Errno) {
	t.Helper()
	id, e := b.Carve(parent, limit)
	if wantId, want := b.carve(parent, limit); id != wantId || e != want {
		t.Fatalf("Carve(%d, %d) = %d, %d, not %d, %d", parent, limit, id, e, wantId, want)
	}
	b.same(t)
	return id, e
}

func (b *both) doClose(t *testing.T, id int) api.Errno {
	t.Helper()
	e := b.Close(id)
	if want := b.close(id); e != want {
		t.Fatalf("Close(%d) = %d, not %d", id, e, want)
	}
	b.same(t)
	return e
}

func (b *both) doCharge(t *testing.T, id, n int) api.Errno {
	t.Helper()
	e := b.Charge(id, n)
	if want := b.charge(id, n); e != want {
		t.Fatalf("Charge(%d, %d) = %d, not %d", id, n, e, want)
	}
	b.same(t)
	return e
}

func (b *both) doRefund(t *testing.T, id, n int) api.Errno {
	t.Helper()
	e := b.Refund(id, n)
	if want := b.refund(id, n); e != want {
		t.Fatalf("Refund(%d, %d) = %d, not %d", id, n, e, want)
	}
	b.same(t)
	return e
}

// carves fails unless the child has that number.
func carves(t *testing.T, q *quota.Tree, parent, limit, want int) {
	t.Helper()
	if id, e := q.Carve(parent, limit); id != want || e != api.OK {
		t.Fatalf("Carve(%d, %d) = %d, %d, not %d", parent, limit, id, e, want)
	}
}

// refuses fails unless the carving answers 0 and that error.
func refuses(t *testing.T, q *quota.Tree, parent, limit int, want api.Errno) {
	t.Helper()
	if id, e := q.Carve(parent, limit); id != 0 || e != want {
		t.Fatalf("Carve(%d, %d) = %d, %d, not 0, %d", parent, limit, id, e, want)
	}
}

// is fails unless the errors are the same.
func is(t *testing.T, what string, e, want api.Errno) {
	t.Helper()
	if e != want {
		t.Fatalf("%s: %d, not %d", what, e, want)
	}
}

// uses fails unless these are the uses of the factories 0, 1, ..
func uses(t *testing.T, q *quota.Tree, l ...int) {
	t.Helper()
	for id, want := range l {
		if got := q.Use(id); got != want {
			t.Fatalf("Use(%d) = %d, not %d", id, got, want)
		}
	}
}

// full is a tree with as many factories as there may be, of the numbers 0 to 31, each beneath the root and of the limit 1.
func full(t *testing.T, limit int) *quota.Tree {
	t.Helper()
	q := quota.New(limit)
	for id := 1; id < 32; id++ {
		carves(t, q, 0, 1, id)
	}
	return q
}

// great are numbers of which a sum may go round.
var great = []int{1<<30 + 1, 1 << 31, 1<<32 - 1, 1 << 32, 1<<32 + 1, 1 << 62, math.MaxInt - 1000, math.MaxInt - 1, math.MaxInt}

// below are numbers below 0.
var below = []int{-1, -2, -999, -1000, -1001, -1 << 31, -1 << 32, -1 << 62, math.MinInt + 1, math.MinInt}

// The chapter's examples.
func TestExamples(t *testing.T) {
	q := quota.New(1000)
	carves(t, q, 0, 600, 1)
	refuses(t, q, 0, 500, api.ErrQuota)
	is(t, "Charge(1, 600)", q.Charge(1, 600), api.OK)
	uses(t, q, 600, 600)
}

// P5.1: a tree of each limit at the edges has the root alone, to which nothing is charged.
func TestNewHasTheRootAlone(t *testing.T) {
	for _, limit := range []int{0, 1, 2, 1000, 65536, 1<<30 - 1, 1 << 30} {
		b := made(t, limit)
		b.same(t)
		if !slices.Equal(b.Ids(), []int{0}) || b.Limit(0) != limit || b.Use(0) != 0 || b.Charged(0) != 0 || b.Parent(0) != -1 {
			t.Errorf("New(%d): Ids %v, Limit %d, Use %d, Charged %d, Parent %d", limit, b.Ids(), b.Limit(0), b.Use(0), b.Charged(0), b.Parent(0))
		}
	}
}

// P5.1: New is nil of another limit.
func TestNewOfAnotherLimitIsNil(t *testing.T) {
	for _, limit := range slices.Concat(below, great) {
		if quota.New(limit) != nil {
			t.Errorf("New(%d) isn't nil", limit)
		}
	}
}

// P5.1: a child is carved of the root, of a child, and of a child's child; it has its limit, and nothing charged, and its limit is of its parent's use alone.
func TestCarve(t *testing.T) {
	q := quota.New(1000)
	carves(t, q, 0, 600, 1)
	carves(t, q, 1, 500, 2)
	carves(t, q, 2, 400, 3)
	carves(t, q, 0, 50, 4)
	carves(t, q, 1, 30, 5)
	uses(t, q, 650, 530, 400, 0, 0, 0)
	for id, x := range [][2]int{{-1, 1000}, {0, 600}, {1, 500}, {2, 400}, {0, 50}, {1, 30}} {
		if q.Parent(id) != x[0] || q.Limit(id) != x[1] || q.Charged(id) != 0 {
			t.Errorf("of %d: Parent %d, Limit %d, Charged %d", id, q.Parent(id), q.Limit(id), q.Charged(id))
		}
	}
	within(t, q)
}

// P5.1: a limit that just fits is carved, one more isn't; beside charges, beside children, and where nothing is left.
func TestCarveThatJustFits(t *testing.T) {
	q := quota.New(1000)
	refuses(t, q, 0, 1001, api.ErrQuota)
	carves(t, q, 0, 1000, 1)
	refuses(t, q, 0, 1, api.ErrQuota)
	carves(t, q, 0, 0, 2)
	is(t, "Charge(1, 300)", q.Charge(1, 300), api.OK)
	refuses(t, q, 1, 701, api.ErrQuota)
	carves(t, q, 1, 200, 3)
	refuses(t, q, 1, 501, api.ErrQuota)
	carves(t, q, 1, 500, 4)
	refuses(t, q, 1, 1, api.ErrQuota)
	carves(t, q, 1, 0, 5)
	refuses(t, q, 2, 1, api.ErrQuota)
	carves(t, q, 2, 0, 6)
	uses(t, q, 1000, 1000, 0, 0, 0, 0, 0)
	within(t, q)
}

// P5.1: limits at and beside 0 and the greatest, of trees of these limits.
func TestCarveAtTheEdges(t *testing.T) {
	for _, limit := range []int{0, 1, 1<<30 - 1, 1 << 30} {
		for _, n := range []int{math.MinInt, -1, 0, 1, 1<<30 - 1, 1 << 30, 1<<30 + 1, math.MaxInt} {
			b := made(t, limit)
			for range 3 {
				b.doCarve(t, 0, n)
				b.doCarve(t, 1, n)
			}
			within(t, b.Tree)
		}
	}
}

// P5.1: a limit so great that a sum would go round is more than the parent's limit.
func TestCarveOfGreatLimits(t *testing.T) {
	q := quota.New(1 << 30)
	is(t, "Charge(0, 5)", q.Charge(0, 5), api.OK)
	carves(t, q, 0, 1000, 1)
	is(t, "Charge(1, 1000)", q.Charge(1, 1000), api.OK)
	for _, n := range great {
		refuses(t, q, 0, n, api.ErrQuota)
		refuses(t, q, 1, n, api.ErrQuota)
	}
	uses(t, q, 1005, 1000)
}

// P5.1: a parent that isn't there, or isn't there any more.
func TestCarveOfNoParent(t *testing.T) {
	q := quota.New(1000)
	carves(t, q, 0, 100, 1)
	carves(t, q, 0, 100, 2)
	is(t, "Close(1)", q.Close(1), api.OK)
	for _, id := range slices.Concat([]int{1, 3, 4, 31, 32, 33}, below, great) {
		refuses(t, q, id, 0, api.ErrNone)
		refuses(t, q, id, 10, api.ErrNone)
	}
	if !slices.Equal(q.Ids(), []int{0, 2}) || q.Use(0) != 100 {
		t.Errorf("Ids() = %v, Use(0) = %d", q.Ids(), q.Use(0))
	}
}

// P5.1: there are MaxFactories at most, the root among them; when one is closed, there is room for one.
func TestCarveOfAsManyAsThereMayBe(t *testing.T) {
	q := full(t, 1000)
	for _, parent := range []int{0, 1, 31} {
		refuses(t, q, parent, 0, api.ErrFull)
	}
	if len(q.Ids()) != api.MaxFactories || q.Use(0) != 31 {
		t.Fatalf("%d factories, Use(0) = %d", len(q.Ids()), q.Use(0))
	}
	for i, id := range []int{7, 31, 1, 32} {
		is(t, "Close", q.Close(id), api.OK)
		carves(t, q, 0, 2, 32+i)
		refuses(t, q, 0, 2, api.ErrFull)
	}
	if l := q.Ids(); len(l) != 32 || slices.Contains(l, 7) || slices.Contains(l, 32) || l[31] != 35 {
		t.Errorf("Ids() = %v", l)
	}
}

// P5.1: as many as there may be are counted in the whole tree, in a row of children of children too.
func TestCarveInARow(t *testing.T) {
	q := quota.New(1 << 30)
	for id := 1; id < 32; id++ {
		carves(t, q, id-1, 1<<30-id, id)
	}
	refuses(t, q, 31, 1, api.ErrFull)
	refuses(t, q, 0, 1, api.ErrFull)
	for id := range 31 {
		if q.Use(id) != 1<<30-id-1 || q.Parent(id+1) != id {
			t.Fatalf("Use(%d) = %d, Parent(%d) = %d", id, q.Use(id), id+1, q.Parent(id+1))
		}
	}
	within(t, q)
	for id := 1; id < 31; id++ {
		is(t, "Close of one that has a child", q.Close(id), api.ErrState)
	}
	for id := 31; id > 0; id-- {
		is(t, "Close", q.Close(id), api.OK)
		if q.Use(id-1) != 0 || q.Limit(id) != 0 || q.Parent(id) != -1 {
			t.Fatalf("behind Close(%d): Use(%d) = %d, Limit %d, Parent %d", id, id-1, q.Use(id-1), q.Limit(id), q.Parent(id))
		}
	}
	if !slices.Equal(q.Ids(), []int{0}) || q.Use(0) != 0 {
		t.Errorf("Ids() = %v, Use(0) = %d", q.Ids(), q.Use(0))
	}
	carves(t, q, 0, 1<<30, 32)
}

// P5.1: where two errors of a carving are at hand, the one that is named first is told.
func TestCarveTellsTheFirstError(t *testing.T) {
	q := full(t, 100)
	is(t, "Charge(1, 1)", q.Charge(1, 1), api.OK)
	for i, x := range []struct {
		parent, limit int
		e             api.Errno
	}{
		{32, -1, api.ErrNone},            // before ErrArg
		{32, 101, api.ErrNone},           // before ErrQuota
		{32, 0, api.ErrNone},             // before ErrFull
		{-1, math.MinInt, api.ErrNone},   // before ErrArg
		{1, -1, api.ErrArg},              // before ErrFull
		{0, math.MinInt, api.ErrArg},     // before ErrFull
		{1, 1, api.ErrQuota},             // before ErrFull
		{0, 70, api.ErrQuota},            // before ErrFull
		{0, math.MaxInt, api.ErrQuota},   // before ErrFull
		{0, 69, api.ErrFull},             // just fits
		{1, 0, api.ErrFull},              // just fits
		{math.MaxInt, -1, api.ErrNone},   // before ErrArg
		{math.MinInt, 1000, api.ErrNone}, // before ErrQuota
	} {
		if id, e := q.Carve(x.parent, x.limit); id != 0 || e != x.e {
			t.Errorf("case %d: Carve(%d, %d) = %d, %d, not 0, %d", i, x.parent, x.limit, id, e, x.e)
		}
	}
	within(t, q)
}

// P5.1: a number that was given is never given again, nor does an error use one up.
func TestNumbersAreGivenOnce(t *testing.T) {
	q := quota.New(1000)
	for id := 1; id <= 2000; id++ {
		carves(t, q, 0, 1000, id)
		refuses(t, q, 0, 1, api.ErrQuota)
		refuses(t, q, 0, -1, api.ErrArg)
		refuses(t, q, id+1, 0, api.ErrNone)
		is(t, "Close", q.Close(id), api.OK)
		is(t, "Close again", q.Close(id), api.ErrNone)
	}
	if !slices.Equal(q.Ids(), []int{0}) || q.Use(0) != 0 {
		t.Errorf("Ids() = %v, Use(0) = %d", q.Ids(), q.Use(0))
	}
}

// P5.1: a factory that is closed goes, and its limit is no more of its parent's use; the others stay.
func TestClose(t *testing.T) {
	q := quota.New(1000)
	carves(t, q, 0, 300, 1)
	carves(t, q, 0, 400, 2)
	carves(t, q, 2, 150, 3)
	carves(t, q, 2, 250, 4)
	is(t, "Charge(0, 300)", q.Charge(0, 300), api.OK)
	is(t, "Charge(4, 9)", q.Charge(4, 9), api.OK)
	uses(t, q, 1000, 0, 400, 0, 9)
	is(t, "Close(3)", q.Close(3), api.OK)
	uses(t, q, 1000, 0, 250, 0, 9)
	is(t, "Close(1)", q.Close(1), api.OK)
	uses(t, q, 700, 0, 250, 0, 9)
	if !slices.Equal(q.Ids(), []int{0, 2, 4}) || q.Parent(4) != 2 || q.Limit(4) != 250 || q.Charged(0) != 300 {
		t.Errorf("Ids() = %v, Parent(4) = %d, Limit(4) = %d, Charged(0) = %d", q.Ids(), q.Parent(4), q.Limit(4), q.Charged(0))
	}
	refuses(t, q, 2, 151, api.ErrQuota)
	carves(t, q, 2, 150, 5)
	refuses(t, q, 0, 301, api.ErrQuota)
	carves(t, q, 0, 300, 6)
	within(t, q)
}

// P5.1: the root isn't closed: whether it has a use, a child, or nothing.
func TestCloseOfTheRoot(t *testing.T) {
	q := quota.New(1000)
	is(t, "Close(0)", q.Close(0), api.ErrArg)
	is(t, "Charge(0, 1)", q.Charge(0, 1), api.OK)
	is(t, "Close(0) with a use", q.Close(0), api.ErrArg)
	carves(t, q, 0, 0, 1)
	is(t, "Close(0) with a use and a child", q.Close(0), api.ErrArg)
	is(t, "Refund(0, 1)", q.Refund(0, 1), api.OK)
	is(t, "Close(0) with a child", q.Close(0), api.ErrArg)
	is(t, "Close(0) of a limit 0", quota.New(0).Close(0), api.ErrArg)
	if !slices.Equal(q.Ids(), []int{0, 1}) || q.Limit(0) != 1000 {
		t.Errorf("Ids() = %v, Limit(0) = %d", q.Ids(), q.Limit(0))
	}
}

// P5.1: a factory whose use isn't 0, by a charge or by a child, and one whose child has the limit 0, isn't closed, and is as it was.
func TestCloseOfWhatIsUsed(t *testing.T) {
	b := made(t, 1000)
	b.doCarve(t, 0, 500)
	b.doCharge(t, 1, 1)
	is(t, "Close(1) with a charge", b.doClose(t, 1), api.ErrState)
	b.doCarve(t, 1, 100)
	is(t, "Close(1) with a charge and a child", b.doClose(t, 1), api.ErrState)
	b.doRefund(t, 1, 1)
	is(t, "Close(1) with a child", b.doClose(t, 1), api.ErrState)
	b.doCarve(t, 1, 0)
	is(t, "Close(2)", b.doClose(t, 2), api.OK)
	if b.Use(1) != 0 {
		t.Fatalf("Use(1) = %d", b.Use(1))
	}
	is(t, "Close(1) with a child of no limit", b.doClose(t, 1), api.ErrState)
	is(t, "Close(3)", b.doClose(t, 3), api.OK)
	is(t, "Close(1) with nothing", b.doClose(t, 1), api.OK)
}

// P5.1: what isn't there, or isn't there any more, isn't closed.
func TestCloseOfNone(t *testing.T) {
	q := quota.New(1000)
	carves(t, q, 0, 100, 1)
	carves(t, q, 0, 200, 2)
	is(t, "Close(1)", q.Close(1), api.OK)
	for _, id := range slices.Concat([]int{1, 3, 32}, below, great) {
		is(t, "Close", q.Close(id), api.ErrNone)
	}
	uses(t, q, 200)
}

// P5.2: charges and refunds of several factories, one beside the other: each has its own, and no other's use turns.
func TestChargeAndRefund(t *testing.T) {
	q := quota.New(1000)
	carves(t, q, 0, 400, 1)
	carves(t, q, 1, 100, 2)
	is(t, "Charge(2, 60)", q.Charge(2, 60), api.OK)
	is(t, "Charge(1, 70)", q.Charge(1, 70), api.OK)
	is(t, "Charge(0, 80)", q.Charge(0, 80), api.OK)
	is(t, "Charge(2, 5)", q.Charge(2, 5), api.OK)
	uses(t, q, 480, 170, 65)
	is(t, "Refund(1, 30)", q.Refund(1, 30), api.OK)
	is(t, "Refund(2, 64)", q.Refund(2, 64), api.OK)
	uses(t, q, 480, 140, 1)
	if q.Charged(0) != 80 || q.Charged(1) != 40 || q.Charged(2) != 1 {
		t.Errorf("Charged = %d, %d, %d", q.Charged(0), q.Charged(1), q.Charged(2))
	}
	within(t, q)
}

// P5.2: a charge that just fits, and one more; with and without children; what is refunded fits again.
func TestChargeThatJustFits(t *testing.T) {
	q := quota.New(1000)
	is(t, "Charge(0, 1001)", q.Charge(0, 1001), api.ErrQuota)
	is(t, "Charge(0, 1000)", q.Charge(0, 1000), api.OK)
	is(t, "Charge(0, 1)", q.Charge(0, 1), api.ErrQuota)
	is(t, "Charge(0, 0)", q.Charge(0, 0), api.OK)
	is(t, "Refund(0, 500)", q.Refund(0, 500), api.OK)
	carves(t, q, 0, 300, 1)
	is(t, "Charge(0, 201)", q.Charge(0, 201), api.ErrQuota)
	carves(t, q, 0, 50, 2)
	is(t, "Charge(0, 151)", q.Charge(0, 151), api.ErrQuota)
	is(t, "Charge(0, 150)", q.Charge(0, 150), api.OK)
	is(t, "Charge(0, 1)", q.Charge(0, 1), api.ErrQuota)
	is(t, "Charge(1, 301)", q.Charge(1, 301), api.ErrQuota)
	is(t, "Charge(1, 300)", q.Charge(1, 300), api.OK)
	is(t, "Close(2)", q.Close(2), api.OK)
	is(t, "Charge(0, 51)", q.Charge(0, 51), api.ErrQuota)
	is(t, "Charge(0, 50)", q.Charge(0, 50), api.OK)
	uses(t, q, 1000, 300)
	within(t, q)
}

// P5.2: charges at and beside 0 and the greatest, of roots of these limits, and of children.
func TestChargeAtTheEdges(t *testing.T) {
	for _, limit := range []int{0, 1, 1<<30 - 1, 1 << 30} {
		for _, n := range slices.Concat([]int{0, 1, 2, 1<<30 - 2, 1<<30 - 1, 1 << 30}, below, great) {
			b := made(t, limit)
			b.doCharge(t, 0, n)
			b.doCharge(t, 0, n)
			b.doRefund(t, 0, n)
			b.doRefund(t, 0, n)
			b.doRefund(t, 0, b.Charged(0))
			b.doCarve(t, 0, limit)
			b.doCharge(t, 1, n)
			b.doCharge(t, 1, 1)
			b.doRefund(t, 1, n)
			b.doRefund(t, 1, n)
			within(t, b.Tree)
		}
	}
}

// P5.2: an n below 0 is no charge and no refund, whatever is charged.
func TestChargeAndRefundBelow0(t *testing.T) {
	q := quota.New(1000)
	for _, charged := range []int{0, 1, 999} {
		is(t, "Charge", q.Charge(0, charged), api.OK)
		for _, n := range below {
			is(t, "Charge of an n below 0", q.Charge(0, n), api.ErrArg)
			is(t, "Refund of an n below 0", q.Refund(0, n), api.ErrArg)
		}
		uses(t, q, q.Charged(0))
	}
	uses(t, q, 1000)
}

// P5.2: an n so great that a sum would go round is more than any limit, and more than was charged.
func TestChargeAndRefundOfGreatNumbers(t *testing.T) {
	q := quota.New(1 << 30)
	carves(t, q, 0, 1<<29, 1)
	is(t, "Charge(0, 7)", q.Charge(0, 7), api.OK)
	is(t, "Charge(1, 1<<29)", q.Charge(1, 1<<29), api.OK)
	for _, n := range great {
		for id := range 2 {
			is(t, "Charge of a great n", q.Charge(id, n), api.ErrQuota)
			is(t, "Refund of a great n", q.Refund(id, n), api.ErrArg)
		}
	}
	uses(t, q, 1<<29+7, 1<<29)
}

// P5.2: refunds of just what was charged, and of one more; of a child's limit nothing is refunded.
func TestRefundOfJustWhatWasCharged(t *testing.T) {
	q := quota.New(1000)
	carves(t, q, 0, 400, 1)
	is(t, "Refund(0, 1) of nothing", q.Refund(0, 1), api.ErrArg)
	is(t, "Refund(0, 0) of nothing", q.Refund(0, 0), api.OK)
	is(t, "Charge(0, 90)", q.Charge(0, 90), api.OK)
	is(t, "Charge(0, 10)", q.Charge(0, 10), api.OK)
	is(t, "Refund(0, 101)", q.Refund(0, 101), api.ErrArg)
	is(t, "Refund(0, 500)", q.Refund(0, 500), api.ErrArg)
	is(t, "Refund(1, 1)", q.Refund(1, 1), api.ErrArg)
	uses(t, q, 500, 0)
	is(t, "Refund(0, 100)", q.Refund(0, 100), api.OK)
	is(t, "Refund(0, 1)", q.Refund(0, 1), api.ErrArg)
	is(t, "Refund(0, 0)", q.Refund(0, 0), api.OK)
	uses(t, q, 400, 0)
}

// P5.2: what isn't there, or isn't there any more, is neither charged nor refunded, whatever n is.
func TestChargeAndRefundOfNone(t *testing.T) {
	q := quota.New(1000)
	carves(t, q, 0, 100, 1)
	carves(t, q, 0, 100, 2)
	is(t, "Close(1)", q.Close(1), api.OK)
	for _, id := range slices.Concat([]int{1, 3, 4, 32}, below, great) {
		for _, n := range []int{math.MinInt, -1, 0, 1, 100, 1001, math.MaxInt} {
			is(t, "Charge of none", q.Charge(id, n), api.ErrNone)
			is(t, "Refund of none", q.Refund(id, n), api.ErrNone)
		}
	}
	uses(t, q, 100, 0, 0)
}

// P5.3: of what isn't there, or isn't there any more, all is 0, and its parent -1.
func TestToldOfNone(t *testing.T) {
	q := quota.New(1000)
	carves(t, q, 0, 100, 1)
	carves(t, q, 1, 50, 2)
	is(t, "Close(2)", q.Close(2), api.OK)
	is(t, "Close(1)", q.Close(1), api.OK)
	carves(t, q, 0, 100, 3)
	for _, id := range slices.Concat([]int{1, 2, 4, 32}, below, great) {
		if got := [4]int{q.Limit(id), q.Use(id), q.Charged(id), q.Parent(id)}; got != [4]int{0, 0, 0, -1} {
			t.Errorf("of %d: Limit, Use, Charged, Parent = %v", id, got)
		}
	}
}

// P5.3: Ids rises, in whichever order factories were carved of others and closed.
func TestIdsRise(t *testing.T) {
	q := full(t, 1000)
	want := q.Ids()
	for i, id := range []int{30, 3, 16, 1, 31, 8} {
		is(t, "Close", q.Close(id), api.OK)
		want = slices.DeleteFunc(want, func(k int) bool { return k == id })
		if got := q.Ids(); !slices.Equal(got, want) {
			t.Fatalf("Ids() = %v, not %v", got, want)
		}
		if i%2 == 0 {
			carves(t, q, 2, 0, 32+i/2)
			want = append(want, 32+i/2)
		}
		if got := q.Ids(); !slices.Equal(got, want) {
			t.Fatalf("Ids() = %v, not %v", got, want)
		}
	}
}

// P5.3, rule 4: Ids is new memory each time, its spare room too.
func TestIdsAreNewMemory(t *testing.T) {
	b := made(t, 1000)
	b.doCarve(t, 0, 10)
	b.doCarve(t, 0, 10)
	first, second := b.Ids(), b.Ids()
	spoil(first)
	if !slices.Equal(second, []int{0, 1, 2}) {
		t.Errorf("the second list is %v", second)
	}
	b.same(t)
	b.doCarve(t, 0, 10)
	third := b.Ids()
	spoil(second)
	b.doClose(t, 1)
	b.doCarve(t, 0, 10)
	if !slices.Equal(third, []int{0, 1, 2, 3}) || slices.ContainsFunc(first, func(k int) bool { return k != -7 }) {
		t.Errorf("the third list is %v, the first %v", third, first)
	}
	b.same(t)
}

func spoil(l []int) {
	l = l[:cap(l)]
	for i := range l {
		l[i] = -7
	}
}

// P5.3: a nil tree answers ErrArg, 0, -1, none, whatever it is asked.
func TestNilTree(t *testing.T) {
	var q *quota.Tree
	for _, id := range []int{math.MinInt, -1, 0, 1, 31, math.MaxInt} {
		for _, n := range []int{math.MinInt, -1, 0, 1, math.MaxInt} {
			refuses(t, q, id, n, api.ErrArg)
			is(t, "Charge", q.Charge(id, n), api.ErrArg)
			is(t, "Refund", q.Refund(id, n), api.ErrArg)
		}
		is(t, "Close", q.Close(id), api.ErrArg)
		if got := [4]int{q.Limit(id), q.Use(id), q.Charged(id), q.Parent(id)}; got != [4]int{0, 0, 0, -1} {
			t.Errorf("of %d: Limit, Use, Charged, Parent = %v", id, got)
		}
	}
	if len(q.Ids()) != 0 {
		t.Errorf("Ids() = %v", q.Ids())
	}
}

// P5.1 to P5.4: mixed steps, right and wrong ones, of trees of several limits, against the model; after each the tree tells the same as the model, and no use is more than its limit.
func TestMixedSteps(t *testing.T) {
	s := steps(5)
	seen := map[api.Errno]int{}
	for _, limit := range []int{0, 1, 40, 1000, 65536, 1 << 30} {
		for range 20 {
			b := made(t, limit)
			for range 300 {
				seen[b.step(t, &s)]++
				within(t, b.Tree)
			}
		}
	}
	for _, e := range []api.Errno{api.OK, api.ErrArg, api.ErrQuota, api.ErrNone, api.ErrFull, api.ErrState} {
		if seen[e] < 100 {
			t.Errorf("the error %d was told %d times only", e, seen[e])
		}
	}
}

// step does one step to both; most are of factories that are there, with numbers at and beside what is left, or charged.
func (b *both) step(t *testing.T, s *steps) api.Errno {
	t.Helper()
	id := s.of(b.ids())
	if s.next(10) == 0 {
		id = s.next(len(b.model)+3) - 1
	}
	left, charged := b.Limit(id)-b.Use(id), b.Charged(id)
	switch s.next(8) {
	case 0, 1, 2:
		_, e := b.doCarve(t, id, s.of([]int{0, 0, 0, 1, left / 4, left / 2, left, left + 1, -1}))
		return e
	case 3, 4:
		return b.doCharge(t, id, s.of([]int{0, 1, left / 8, left / 3, left, left + 1, -1, math.MaxInt - s.next(1000)}))
	case 5, 6:
		return b.doRefund(t, id, s.of([]int{0, 1, charged / 2, charged, charged, charged, charged + 1, -1}))
	default:
		return b.doClose(t, id)
	}
}

// P5.1, P5.4: a tree that is emptied again, in mixed order, is but for its next number like a new one.
func TestEmptiedAgain(t *testing.T) {
	s := steps(55)
	b := made(t, 1<<20)
	for round := range 40 {
		for len(b.ids()) < 32 {
			id := s.of(b.ids())
			left := b.Limit(id) - b.Use(id)
			b.doCarve(t, id, s.next(left/2+1))
			b.doCharge(t, id, s.next((b.Limit(id)-b.Use(id))/2+1))
		}
		within(t, b.Tree)
		for len(b.ids()) > 1 || b.Use(0) > 0 {
			id := s.of(b.ids())
			b.doRefund(t, id, s.next(b.Charged(id)+1))
			b.doRefund(t, id, b.Charged(id)*s.next(2))
			b.doClose(t, id)
		}
		carves(t, b.Tree, 0, 1<<20, 31*(round+1)+round+1)
		b.carve(0, 1<<20)
		is(t, "Close", b.doClose(t, len(b.model)-1), api.OK)
	}
}

// Two trees have nothing in common.
func TestTwoTrees(t *testing.T) {
	a, b := made(t, 1000), made(t, 500)
	s := steps(6)
	for range 500 {
		a.step(t, &s)
		b.same(t)
		b.step(t, &s)
		a.same(t)
	}
}
