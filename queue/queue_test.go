package queue

import (
	"math"
	"slices"
	"testing"

	"viaduct/api"
)

// mix answers numbers without an order to be seen, the same in every run.
func mix(seed uint64) func(n int) int {
	return func(n int) int {
		seed = seed*6364136223846793005 + 1442695040888963407
		return int(((seed ^ seed>>29) >> 8) % uint64(n))
	}
}

// some are n items whose numbers are below most, so that many are the same if that is low.
func some(next func(n int) int, n, most int) []Item {
	all := make([]Item, n)
	for i := range all {
		all[i] = Item{next(most), next(most), next(most)}
	}
	return all
}

// newQueue is New with items pushed.
func newQueue(t *testing.T, all ...Item) *Queue {
	t.Helper()
	q := New()
	if q == nil {
		t.Fatal("New is nil")
	}
	for i, x := range all {
		push(t, q, x, api.OK)
		size(t, q, i+1)
	}
	return q
}

func push(t *testing.T, q *Queue, x Item, want api.Errno) {
	t.Helper()
	if e := q.Push(x); e != want {
		t.Fatalf("Push(%v) = %d, not %d", x, e, want)
	}
}

// pop asks for items, one after the other.
func pop(t *testing.T, q *Queue, want ...Item) {
	t.Helper()
	for _, x := range want {
		n := q.Len()
		if got, e := q.Pop(); got != x || e != api.OK {
			t.Fatalf("Pop = %v, %d, not %v", got, e, x)
		}
		size(t, q, n-1)
	}
}

// popNone asks for an error, without an item beside it.
func popNone(t *testing.T, q *Queue, want api.Errno) {
	t.Helper()
	if x, e := q.Pop(); x != (Item{}) || e != want {
		t.Fatalf("Pop = %v, %d, not the error %d", x, e, want)
	}
}

func size(t *testing.T, q *Queue, want int) {
	t.Helper()
	if n := q.Len(); n != want {
		t.Fatalf("Len = %d, not %d", n, want)
	}
}

// popAll empties a queue.
func popAll(t *testing.T, q *Queue, want []Item) {
	t.Helper()
	size(t, q, len(want))
	pop(t, q, want...)
	popNone(t, q, api.ErrNone)
	size(t, q, 0)
}

// below is Less by another way.
func below(a, b Item) bool {
	if a.Cost != b.Cost {
		return a.Cost < b.Cost
	}
	if a.Hops != b.Hops {
		return a.Hops < b.Hops
	}
	return a.Node < b.Node
}

// rising are the same items, each put behind those that aren't greater.
func rising(all []Item) []Item {
	var sorted []Item
	for _, x := range all {
		sorted = put(sorted, x)
	}
	return sorted
}

// put is a rising list with an item more.
func put(sorted []Item, x Item) []Item {
	i := 0
	for i < len(sorted) && !below(x, sorted[i]) {
		i++
	}
	return slices.Insert(sorted, i, x)
}

// P10.1

func TestLess(t *testing.T) {
	for _, c := range []struct {
		a, b Item
		want bool
	}{
		{Item{3, 9, 9}, Item{5, 1, 2}, true}, {Item{3, 2, 7}, Item{3, 9, 9}, true}, {Item{3, 2, 6}, Item{3, 2, 7}, true},
		{Item{3, 2, 7}, Item{3, 2, 7}, false}, {Item{}, Item{}, false}, {Item{-1, -1, -1}, Item{-1, -1, -1}, false},
		{Item{1, 9, 9}, Item{2, 0, 0}, true}, {Item{1, 1, 9}, Item{1, 2, 0}, true}, {Item{1, 0, 9}, Item{2, 5, 0}, true}, {Item{1, 5, 0}, Item{2, 0, 9}, true},
		{Item{Cost: -1}, Item{}, true}, {Item{Hops: -1}, Item{}, true}, {Item{Node: -1}, Item{}, true},
		{Item{Cost: -2}, Item{Cost: -1}, true}, {Item{Hops: -2}, Item{Hops: -1}, true}, {Item{Node: -2}, Item{Node: -1}, true},
		{Item{Cost: 1 << 32}, Item{Cost: 1<<32 + 1}, true}, {Item{Cost: 1, Hops: 1 << 40}, Item{Cost: 1 << 40}, true}, {Item{Hops: 1, Node: 1 << 40}, Item{Hops: 2}, true},
	} {
		if Less(c.a, c.b) != c.want {
			t.Errorf("Less(%v, %v) isn't %v", c.a, c.b, c.want)
		}
		if Less(c.b, c.a) {
			t.Errorf("Less(%v, %v)", c.b, c.a)
		}
	}
}

// Differences of these are beyond an int.
func TestLessAtEdges(t *testing.T) {
	numbers := []int{math.MinInt, math.MinInt + 1, -1 << 32, -1, 0, 1, 1 << 32, math.MaxInt - 1, math.MaxInt}
	var all []Item
	for _, cost := range numbers {
		for _, hops := range numbers {
			for _, node := range numbers {
				all = append(all, Item{cost, hops, node})
			}
		}
	}
	for i, a := range all {
		for j, b := range all {
			if Less(a, b) != (i < j) {
				t.Fatalf("Less(%v, %v) isn't %v", a, b, i < j)
			}
		}
	}
}

func TestLessOfMany(t *testing.T) {
	next := mix(1)
	for _, most := range []int{1, 2, 3, 10, 1 << 40} {
		for range 2000 {
			x := some(next, 2, most)
			if Less(x[0], x[1]) != below(x[0], x[1]) {
				t.Fatalf("Less(%v, %v) isn't %v", x[0], x[1], below(x[0], x[1]))
			}
		}
	}
}

// P10.2

func TestNew(t *testing.T) {
	q := newQueue(t)
	size(t, q, 0)
	popNone(t, q, api.ErrNone)
	popNone(t, q, api.ErrNone)
	size(t, q, 0)
	push(t, q, Item{}, api.OK)
	size(t, q, 1)
	popAll(t, q, []Item{{}})
}

func TestExample(t *testing.T) {
	q := newQueue(t, Item{5, 1, 2}, Item{3, 9, 9}, Item{3, 2, 7})
	popAll(t, q, []Item{{3, 2, 7}, {3, 9, 9}, {5, 1, 2}})
	push(t, q, Item{4, 4, 4}, api.OK)
	popAll(t, q, []Item{{4, 4, 4}})
}

func TestSeveralTimes(t *testing.T) {
	q := newQueue(t, Item{7, 1, 1}, Item{7, 1, 1}, Item{2, 1, 1}, Item{7, 1, 1}, Item{2, 1, 1})
	pop(t, q, Item{2, 1, 1}, Item{2, 1, 1}, Item{7, 1, 1})
	push(t, q, Item{7, 1, 1}, api.OK)
	popAll(t, q, []Item{{7, 1, 1}, {7, 1, 1}, {7, 1, 1}})
}

// No number of an item is refused.
func TestAnyItem(t *testing.T) {
	all := []Item{{math.MinInt, math.MinInt, math.MinInt}, {math.MinInt, math.MaxInt, 0}, {-1, -1, -1}, {-1, 0, math.MaxInt}, {}, {0, 0, 1}, {0, math.MaxInt, math.MinInt}, {math.MaxInt, math.MinInt, 0}, {math.MaxInt, math.MaxInt, math.MaxInt}}
	popAll(t, newQueue(t, all...), all)
	slices.Reverse(all)
	q := newQueue(t, all...)
	slices.Reverse(all)
	popAll(t, q, all)
}

func TestFull(t *testing.T) {
	if MaxItems != 1024 {
		t.Fatal("MaxItems")
	}
	all := some(mix(2), 1024, 40)
	q := newQueue(t, all...)
	// Neither a less nor a greater one, nor one that is there, and nothing changes.
	for _, x := range []Item{{}, {-1, -1, -1}, {50, 50, 50}, all[0], {math.MinInt, 0, 0}} {
		push(t, q, x, api.ErrFull)
		size(t, q, 1024)
	}
	want := rising(all)
	pop(t, q, want[0])
	push(t, q, Item{99, 0, 0}, api.OK)
	push(t, q, Item{-99, 0, 0}, api.ErrFull)
	pop(t, q, want[1], want[2])
	push(t, q, Item{-99, 0, 0}, api.OK)
	push(t, q, Item{99, 0, 0}, api.OK)
	push(t, q, Item{99, 0, 0}, api.ErrFull)
	pop(t, q, Item{-99, 0, 0})
	popAll(t, q, append(want[3:], Item{99, 0, 0}, Item{99, 0, 0}))
}

// What counts is how many wait, and not how many were ever pushed.
func TestFullOfThoseThatWait(t *testing.T) {
	q := newQueue(t)
	for i := range 5000 {
		push(t, q, Item{i, 0, 0}, api.OK)
		pop(t, q, Item{i, 0, 0})
	}
	for i := range 1024 {
		push(t, q, Item{i, 0, 0}, api.OK)
	}
	push(t, q, Item{}, api.ErrFull)
}

func TestNil(t *testing.T) {
	for _, q := range []*Queue{nil, {}, new(Queue)} {
		for range 2 {
			size(t, q, 0)
			push(t, q, Item{1, 2, 3}, api.ErrNil)
			size(t, q, 0)
			popNone(t, q, api.ErrNil)
		}
	}
	var zero Queue
	for range 1030 {
		push(t, &zero, Item{}, api.ErrNil)
	}
	popNone(t, &zero, api.ErrNil)
	if zero.Len() != 0 {
		t.Error("Len of the zero value")
	}
}

func TestQueuesAreApart(t *testing.T) {
	one, two := newQueue(t), newQueue(t)
	push(t, one, Item{5, 0, 0}, api.OK)
	size(t, two, 0)
	popNone(t, two, api.ErrNone)
	push(t, two, Item{4, 0, 0}, api.OK)
	push(t, two, Item{6, 0, 0}, api.OK)
	pop(t, one, Item{5, 0, 0})
	popNone(t, one, api.ErrNone)
	popAll(t, two, []Item{{4, 0, 0}, {6, 0, 0}})
}

// P10.3

// Each order of six items, some of which are the same.
func TestEachOrder(t *testing.T) {
	all := []Item{{1, 1, 1}, {1, 1, 2}, {1, 1, 2}, {1, 2, 0}, {2, 0, 0}, {2, 0, 0}}
	var orders func(rest, before []Item)
	orders = func(rest, before []Item) {
		if len(rest) == 0 {
			popAll(t, newQueue(t, before...), all)
		}
		for i, x := range rest {
			orders(slices.Delete(slices.Clone(rest), i, i+1), append(slices.Clone(before), x))
		}
	}
	orders(all, nil)
}

func TestRuns(t *testing.T) {
	for _, n := range []int{1, 2, 3, 4, 7, 8, 9, 100, 1023, 1024} {
		var up, same []Item
		for i := range n {
			up = append(up, Item{i / 100, i / 10 % 10, i % 10})
			same = append(same, Item{4, 4, 4})
		}
		popAll(t, newQueue(t, same...), same)
		popAll(t, newQueue(t, up...), up)
		down := slices.Clone(up)
		slices.Reverse(down)
		popAll(t, newQueue(t, down...), up)
	}
}

func TestOrderOfMany(t *testing.T) {
	next := mix(3)
	for _, most := range []int{1, 2, 3, 12, 1 << 40} {
		for n := 1; n <= 1024; n += 1 + n/3 {
			all := some(next, n, most)
			popAll(t, newQueue(t, all...), rising(all))
		}
		all := some(next, 1024, most)
		popAll(t, newQueue(t, all...), rising(all))
	}
}

// One queue over many calls, against a rising list, in times with more of the one call and times with more of the other.
func TestManyCalls(t *testing.T) {
	next := mix(4)
	q := newQueue(t)
	var model []Item
	full, empty := 0, 0
	for i := range 60000 {
		pushes := 1
		if i/6000%2 == 0 {
			pushes = 5
		}
		x, less := some(next, 1, 20)[0], next(6) >= pushes
		switch {
		case less && len(model) == 0:
			popNone(t, q, api.ErrNone)
			empty++
		case less:
			pop(t, q, model[0])
			model = model[1:]
		case len(model) == 1024:
			push(t, q, x, api.ErrFull)
			full++
		default:
			push(t, q, x, api.OK)
			model = put(model, x)
		}
		size(t, q, len(model))
	}
	if full < 100 || empty < 100 {
		t.Errorf("full %d times, empty %d times", full, empty)
	}
	popAll(t, q, model)
}
