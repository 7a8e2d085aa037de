package pool

import (
	"math"
	"slices"
	"testing"

	"viaduct/api"
)

// mix answers numbers without an order to be seen, the same in every run.
func mix(seed uint64) func(n int) int {
	return func(n int) int {
		seed = seed*6364136223846793005 + 1442695040888963407
		return int(((seed ^ seed>>29) >> 8) % uint64(n))
	}
}

// newPool is New where it must not fail.
func newPool(t *testing.T, low, high int) *Pool {
	t.Helper()
	p := New(low, high)
	if p == nil {
		t.Fatalf("New(%d, %d) is nil", low, high)
	}
	return p
}

// take asks for one label.
func take(t *testing.T, p *Pool, want int) {
	t.Helper()
	if l, e := p.Take(); l != want || e != api.OK {
		t.Fatalf("Take = %d, %d, not %d", l, e, want)
	}
}

// takeNone asks for an error, without a label beside it.
func takeNone(t *testing.T, p *Pool, want api.Errno) {
	t.Helper()
	if l, e := p.Take(); l != 0 || e != want {
		t.Fatalf("Take = %d, %d, not the error %d", l, e, want)
	}
}

func drop(t *testing.T, p *Pool, l int, want api.Errno) {
	t.Helper()
	if e := p.Drop(l); e != want {
		t.Fatalf("Drop(%d) = %d, not %d", l, e, want)
	}
}

// check asks what the pool tells of itself.
func check(t *testing.T, p *Pool, left int, out ...int) {
	t.Helper()
	if p.Left() != left {
		t.Fatalf("Left = %d, not %d", p.Left(), left)
	}
	if g := p.Out(); !slices.Equal(g, out) {
		t.Fatalf("Out = %v, not %v", g, out)
	}
}

// model is a pool by another way: what each of its labels is.
type model struct {
	low    int
	states []int
}

const (
	never = iota
	used
	released
)

func newModel(low, high int) *model {
	return &model{low: low, states: make([]int, high-low+1)}
}

func (m *model) take() (int, api.Errno) {
	i := slices.Index(m.states, never)
	if i < 0 {
		return 0, api.ErrFull
	}
	m.states[i] = used
	return m.low + i, api.OK
}

func (m *model) drop(l int) api.Errno {
	i := l - m.low
	if i < 0 || i >= len(m.states) || m.states[i] != used {
		return api.ErrNone
	}
	m.states[i] = released
	return api.OK
}

func (m *model) copied() *model {
	return &model{low: m.low, states: slices.Clone(m.states)}
}

// labels of one state, rising.
func (m *model) labels(state int) []int {
	var all []int
	for i, s := range m.states {
		if s == state {
			all = append(all, m.low+i)
		}
	}
	return all
}

// P4.1

func TestNew(t *testing.T) {
	for _, c := range [][2]int{{16, 16}, {16, 17}, {16, 1<<20 - 1}, {1<<20 - 1, 1<<20 - 1}, {1000, 1999}, {17, 17}} {
		check(t, newPool(t, c[0], c[1]), c[1]-c[0]+1)
	}
}

func TestNewNone(t *testing.T) {
	for _, c := range [][2]int{
		{15, 20}, {15, 15}, {0, 20}, {3, 3}, {-1, 20}, {math.MinInt, 20}, {math.MinInt, math.MaxInt}, {math.MinInt, math.MinInt},
		{16, 1 << 20}, {16, 1<<20 + 1}, {1 << 20, 1 << 20}, {16, math.MaxInt}, {math.MaxInt, math.MaxInt},
		{20, 19}, {17, 16}, {16, 15}, {16, 0}, {16, -1}, {16, math.MinInt}, {1<<20 - 1, 1<<20 - 2}, {math.MaxInt, math.MinInt},
		{15, 14}, {1 << 20, 16}, {0, 0},
	} {
		if New(c[0], c[1]) != nil {
			t.Errorf("New(%d, %d) is a pool", c[0], c[1])
		}
	}
}

func TestPoolsAreApart(t *testing.T) {
	one, two := newPool(t, 16, 20), newPool(t, 16, 20)
	take(t, one, 16)
	take(t, one, 17)
	drop(t, two, 16, api.ErrNone)
	check(t, two, 5)
	take(t, two, 16)
	drop(t, two, 16, api.OK)
	check(t, one, 3, 16, 17)
}

// P4.2

func TestExample(t *testing.T) {
	p := newPool(t, 16, 17)
	take(t, p, 16)
	drop(t, p, 16, api.OK)
	take(t, p, 17)
	takeNone(t, p, api.ErrFull)
	drop(t, p, 16, api.ErrNone)
	check(t, p, 0, 17)
}

func TestTake(t *testing.T) {
	for _, c := range [][2]int{{16, 40}, {500, 520}, {1<<20 - 5, 1<<20 - 1}} {
		p := newPool(t, c[0], c[1])
		var out []int
		for l := c[0]; l <= c[1]; l++ {
			take(t, p, l)
			out = append(out, l)
			check(t, p, c[1]-l, out...)
		}
		takeNone(t, p, api.ErrFull)
		check(t, p, 0, out...)
	}
}

func TestTakeOfOne(t *testing.T) {
	for _, l := range []int{16, 17, 1<<20 - 1} {
		p := newPool(t, l, l)
		take(t, p, l)
		takeNone(t, p, api.ErrFull)
		drop(t, p, l, api.OK)
		takeNone(t, p, api.ErrFull)
		check(t, p, 0)
	}
}

func TestDrop(t *testing.T) {
	p := newPool(t, 16, 30)
	for l := 16; l <= 20; l++ {
		take(t, p, l)
	}
	for _, c := range []struct {
		l    int
		rest []int
	}{
		{18, []int{16, 17, 19, 20}},
		{16, []int{17, 19, 20}},
		{20, []int{17, 19}},
		{17, []int{19}},
		{19, nil},
	} {
		drop(t, p, c.l, api.OK)
		check(t, p, 10, c.rest...)
		drop(t, p, c.l, api.ErrNone)
		check(t, p, 10, c.rest...)
	}
	take(t, p, 21)
}

func TestDropOfNone(t *testing.T) {
	p := newPool(t, 20, 30)
	for range 4 {
		p.Take()
	}
	drop(t, p, 21, api.OK)
	for _, l := range []int{math.MinInt, -1, 0, 3, 15, 16, 19, 21, 24, 25, 30, 31, 1<<20 - 1, 1 << 20, math.MaxInt} {
		drop(t, p, l, api.ErrNone)
		check(t, p, 7, 20, 22, 23)
	}
	take(t, p, 24)
}

// P4.3

func TestUnmade(t *testing.T) {
	// Twice, as a call that fails must not make a pool of it.
	for _, p := range []*Pool{nil, {}} {
		for range 2 {
			takeNone(t, p, api.ErrNil)
			for _, l := range []int{-1, 0, 16, 1 << 20} {
				drop(t, p, l, api.ErrNil)
			}
			check(t, p, 0)
			if p.Copy() != nil {
				t.Error("Copy of a pool that New did not create")
			}
		}
	}
}

func TestOutRises(t *testing.T) {
	next := mix(1)
	p := newPool(t, 16, 16+499)
	m := newModel(16, 16+499)
	for range 500 {
		p.Take()
		m.take()
	}
	for range 300 {
		l := 16 + next(500)
		drop(t, p, l, m.drop(l))
	}
	check(t, p, 0, m.labels(used)...)
}

func TestOutIsNew(t *testing.T) {
	p := newPool(t, 16, 30)
	for range 5 {
		p.Take()
	}
	out := p.Out()
	clear(out[:cap(out)])
	check(t, p, 10, 16, 17, 18, 19, 20)
	out = p.Out()
	drop(t, p, 18, api.OK)
	take(t, p, 21)
	if !slices.Equal(out, []int{16, 17, 18, 19, 20}) {
		t.Errorf("a change of the pool changed what Out returned: %v", out)
	}
}

func TestCopy(t *testing.T) {
	p := newPool(t, 16, 20)
	for range 3 {
		p.Take()
	}
	drop(t, p, 17, api.OK)
	c := p.Copy()
	check(t, c, 2, 16, 18)
	drop(t, c, 17, api.ErrNone)

	drop(t, p, 16, api.OK)
	take(t, p, 19)
	check(t, c, 2, 16, 18)

	take(t, c, 19)
	take(t, c, 20)
	takeNone(t, c, api.ErrFull)
	drop(t, c, 18, api.OK)
	check(t, c, 0, 16, 19, 20)
	check(t, p, 1, 18, 19)
	take(t, p, 20)
}

// Of a pool without labels in use too: one that is new, and one that is used up.
func TestCopyOfNoneInUse(t *testing.T) {
	p := newPool(t, 16, 17)
	c := p.Copy()
	check(t, c, 2)
	take(t, c, 16)
	check(t, p, 2)

	for l := 16; l <= 17; l++ {
		take(t, p, l)
		drop(t, p, l, api.OK)
	}
	c = p.Copy()
	check(t, c, 0)
	takeNone(t, c, api.ErrFull)
	drop(t, c, 16, api.ErrNone)
}

// P4.4 and P4.5: over all labels that there are, each of them released at another time.

func TestOnceOfAll(t *testing.T) {
	p := newPool(t, api.MinLabel, api.MaxLabel)
	for l := 16; l < 1<<20; l++ {
		take(t, p, l)
		if l%3 == 0 {
			drop(t, p, l, api.OK)
		}
		if l%3 == 2 && l > 16 {
			drop(t, p, l-1, api.OK)
		}
	}
	for range 3 {
		takeNone(t, p, api.ErrFull)
		drop(t, p, p.Out()[0], api.OK)
	}
	if p.Left() != 0 {
		t.Errorf("Left = %d", p.Left())
	}
}

func TestFullStays(t *testing.T) {
	for size := 1; size <= 20; size++ {
		p := newPool(t, 100, 99+size)
		for l := range size {
			take(t, p, 100+l)
		}
		for l := range size {
			takeNone(t, p, api.ErrFull)
			drop(t, p, 100+l, api.OK)
			check(t, p, 0, p.Out()...)
		}
		takeNone(t, p, api.ErrFull)
		takeNone(t, p.Copy(), api.ErrFull)
		check(t, p, 0)
	}
}

// P4.2 to P4.6 over many calls in any order, of pools and of their copies.

func TestManyCalls(t *testing.T) {
	next := mix(2)
	for range 200 {
		low := 16 + next(100)
		high := low + next(40)
		p, m := newPool(t, low, high), newModel(low, high)
		last := 0
		for range 120 {
			switch next(7) {
			case 0, 1, 2:
				l, e := p.Take()
				if want, wantErr := m.take(); l != want || e != wantErr {
					t.Fatalf("Take = %d, %d, not %d, %d", l, e, want, wantErr)
				}
				if e == api.OK && l <= last {
					t.Fatalf("Take = %d after %d", l, last)
				}
				last = max(last, l)
			case 3, 4, 5:
				l := low - 2 + next(high-low+5)
				drop(t, p, l, m.drop(l))
			case 6:
				old, oldModel := p, m
				p, m = p.Copy(), m.copied()
				for range next(4) {
					old.Take()
					oldModel.take()
				}
				check(t, old, len(oldModel.labels(never)), oldModel.labels(used)...)
			}
			check(t, p, len(m.labels(never)), m.labels(used)...)
			if len(p.Out())+len(m.labels(released))+p.Left() != high-low+1 {
				t.Fatalf("%d in use, %d released, %d left of %d", len(p.Out()), len(m.labels(released)), p.Left(), high-low+1)
			}
		}
	}
}
