package spf

import (
	"math"
	"slices"
	"testing"

	"viaduct/api"
	"viaduct/graph"
)

// mix answers numbers without an order to be seen, the same in every run.
func mix(seed uint64) func(n int) int {
	return func(n int) int {
		seed = seed*6364136223846793005 + 1442695040888963407
		return int(((seed ^ seed>>29) >> 8) % uint64(n))
	}
}

func link(from, to, metric int) api.Link {
	return api.Link{From: from, To: to, Metric: metric}
}

// example is the network of the chapter, with so great a Metric from 0 to 3.
func example(metric int) []api.Link {
	return []api.Link{link(0, 1, 1), link(1, 3, 1), link(0, 2, 1), link(2, 3, 1), link(0, 3, metric)}
}

// full has the links between all of n nodes.
func full(n int) []api.Link {
	var all []api.Link
	for i := range n * n {
		if i/n != i%n {
			all = append(all, link(i/n, i%n, 1))
		}
	}
	return all
}

// mixed is a list of links in another order.
func mixed(next func(n int) int, l []api.Link) []api.Link {
	l = slices.Clone(l)
	for i := range l {
		j := i + next(len(l)-i)
		l[i], l[j] = l[j], l[i]
	}
	return l
}

// random is a network of n nodes, whose Metrics are up to most: if that is low, many routes cost the same.
func random(next func(n int) int, n, most int) []api.Link {
	all := mixed(next, full(n))
	all = all[:min(next(len(all)+1)+next(len(all)+1), len(all), 64)]
	for i := range all {
		all[i].Metric = 1 + next(most)
	}
	return all
}

// below is Better by another way.
func below(cost int, a []int, other int, b []int) bool {
	if cost != other {
		return cost < other
	}
	if len(a) != len(b) {
		return len(a) < len(b)
	}
	for i := range a {
		if a[i] != b[i] {
			return a[i] < b[i]
		}
	}
	return false
}

func better(t *testing.T, cost int, a []int, other int, b []int, want bool) {
	t.Helper()
	one, two := slices.Clone(a), slices.Clone(b)
	if Better(cost, a, other, b) != want {
		t.Fatalf("Better(%d, %v, %d, %v) isn't %v", cost, a, other, b, want)
	}
	if !slices.Equal(a, one) || !slices.Equal(b, two) {
		t.Fatalf("Better(%d, %v, %d, %v) changed them into %v and %v", cost, one, other, two, a, b)
	}
}

// every asks for what All returns, and that the links stay as they are, whatever becomes of the results.
func every(t *testing.T, n int, l []api.Link, from int, routes [][]int, costs []int) {
	t.Helper()
	kept := slices.Clone(l)
	for range 2 {
		r, c, e := All(n, l, from)
		if !slices.EqualFunc(r, routes, slices.Equal) || !slices.Equal(c, costs) || e != api.OK {
			t.Fatalf("All(%d, %v, %d) = %v, %v, %d, not %v, %v", n, l, from, r, c, e, routes, costs)
		}
		clear(c[:cap(c)])
		for i := range r {
			if !slices.Equal(r[i], routes[i]) {
				t.Fatalf("All(%d, %v, %d): the route to %d shares memory with another one: %v, not %v", n, l, from, i, r[i], routes[i])
			}
			spoil(r[i])
		}
		clear(r[:cap(r)])
	}
	if !slices.Equal(l, kept) {
		t.Fatalf("All changed %v into %v", kept, l)
	}
}

// spoil sets all the memory of a route, its capacity included, to what is no node.
func spoil(r []int) {
	for i := range r[:cap(r)] {
		r[:cap(r)][i] = -7
	}
}

// notAll asks for ErrArg, without results beside it.
func notAll(t *testing.T, n int, l []api.Link, from int) {
	t.Helper()
	if r, c, e := All(n, l, from); len(r) != 0 || len(c) != 0 || e != api.ErrArg {
		t.Fatalf("All(%d, %v, %d) = %v, %v, %d, not ErrArg", n, l, from, r, c, e)
	}
}

// best asks for what Best returns, and that the links stay as they are, whatever becomes of the result.
func best(t *testing.T, n int, l []api.Link, from, to int, route []int, cost int) {
	t.Helper()
	kept := slices.Clone(l)
	for range 2 {
		r, c, e := Best(n, l, from, to)
		if !slices.Equal(r, route) || c != cost || e != api.OK {
			t.Fatalf("Best(%d, %v, %d, %d) = %v, %d, %d, not %v, %d", n, l, from, to, r, c, e, route, cost)
		}
		spoil(r)
	}
	if !slices.Equal(l, kept) {
		t.Fatalf("Best changed %v into %v", kept, l)
	}
}

// notBest asks for an error, without results beside it.
func notBest(t *testing.T, n int, l []api.Link, from, to int, want api.Errno) {
	t.Helper()
	if r, c, e := Best(n, l, from, to); len(r) != 0 || c != 0 || e != want {
		t.Fatalf("Best(%d, %v, %d, %d) = %v, %d, %d, not the error %d", n, l, from, to, r, c, e, want)
	}
}

// both asks All for its results, and Best for the same ones.
func both(t *testing.T, n int, l []api.Link, from int, routes [][]int, costs []int) {
	t.Helper()
	every(t, n, l, from, routes, costs)
	for to := range n {
		switch {
		case to == from:
			notBest(t, n, l, from, to, api.ErrArg)
		case len(routes[to]) == 0:
			notBest(t, n, l, from, to, api.ErrNone)
		default:
			best(t, n, l, from, to, routes[to], costs[to])
		}
	}
}

// eachRoute goes through the routes that begin with r, and their costs.
func eachRoute(l []api.Link, r []int, cost int, tell func(r []int, cost int)) {
	tell(r, cost)
	for _, x := range l {
		if x.From == r[len(r)-1] && !slices.Contains(r, x.To) {
			eachRoute(l, append(slices.Clone(r), x.To), cost+x.Metric, tell)
		}
	}
}

// byEach is what All returns by another way: the best one of all the routes that there are.
func byEach(n int, l []api.Link, from int) ([][]int, []int) {
	routes, costs := nothing(n)
	eachRoute(l, []int{from}, 0, func(r []int, cost int) {
		to := r[len(r)-1]
		if costs[to] < 0 || below(cost, r, costs[to], routes[to]) {
			routes[to], costs[to] = r, cost
		}
	})
	return routes, costs
}

// byRounds is what All returns by a third way: each link in turn, until no route becomes better. It is for networks with too many routes to go through.
func byRounds(n int, l []api.Link, from int) ([][]int, []int) {
	routes, costs := nothing(n)
	routes[from], costs[from] = []int{from}, 0
	for changed := true; changed; {
		changed = false
		for _, x := range l {
			if costs[x.From] < 0 {
				continue
			}
			r, cost := append(slices.Clone(routes[x.From]), x.To), costs[x.From]+x.Metric
			if costs[x.To] < 0 || below(cost, r, costs[x.To], routes[x.To]) {
				routes[x.To], costs[x.To], changed = r, cost, true
			}
		}
	}
	return routes, costs
}

// nothing is what is known before any route is.
func nothing(n int) ([][]int, []int) {
	costs := make([]int, n)
	for i := range costs {
		costs[i] = -1
	}
	return make([][]int, n), costs
}

// P11.1

func TestBetter(t *testing.T) {
	for _, c := range []struct {
		cost  int
		a     []int
		other int
		b     []int
	}{
		{1, []int{0, 3}, 2, []int{0, 3}},
		{1, []int{0, 1, 2, 3}, 2, []int{0, 3}},
		{1, []int{0, 2, 3}, 2, []int{0, 1, 3}},
		{2, []int{0, 3}, 2, []int{0, 1, 3}},
		{2, []int{0, 9, 3}, 2, []int{0, 1, 2, 3}},
		{2, []int{9, 9}, 2, []int{0, 0, 0}},
		{2, []int{0, 1, 3}, 2, []int{0, 2, 3}},
		{2, []int{0, 1, 9, 3}, 2, []int{0, 2, 1, 3}},
		{2, []int{0, 1, 2}, 2, []int{0, 1, 3}},
		{2, []int{0, 9, 9}, 2, []int{1, 0, 0}},
		{2, []int{2}, 2, []int{10}},
		{0, nil, 0, []int{0}},
		{0, nil, 1, nil},
		{0, []int{0}, 1, nil},
		{-1, []int{1, 2}, 0, []int{1}},
		{-2, []int{1}, -1, []int{1}},
		{0, []int{-1}, 0, []int{0}},
		{0, []int{0, -2}, 0, []int{0, -1}},
	} {
		better(t, c.cost, c.a, c.other, c.b, true)
		better(t, c.other, c.b, c.cost, c.a, false)
		better(t, c.cost, c.a, c.cost, c.a, false)
		better(t, c.other, c.b, c.other, c.b, false)
	}
	// R8.
	better(t, 3, nil, 3, []int{}, false)
	better(t, 3, []int{}, 3, nil, false)
}

// Differences of these are beyond an int.
func TestBetterAtEdges(t *testing.T) {
	numbers := []int{math.MinInt, math.MinInt + 1, -1 << 32, -1, 0, 1, 1 << 32, math.MaxInt - 1, math.MaxInt}
	for i, a := range numbers {
		for j, b := range numbers {
			better(t, a, nil, b, nil, i < j)
			better(t, a, []int{1, 2}, b, []int{1}, i < j)
			better(t, a, []int{1}, b, []int{1, 2}, i <= j)
			better(t, a, []int{2, 1}, b, []int{1, 2}, i < j)
			better(t, a, []int{1, 2}, b, []int{2, 1}, i <= j)
			better(t, 7, []int{a}, 7, []int{b}, i < j)
			better(t, 7, []int{5, a, 9}, 7, []int{5, b, 1}, i < j)
			better(t, 7, []int{a, b}, 7, []int{b, a}, i < j)
		}
	}
}

// The lists needn't be routes, nor within any limit.
func TestBetterOfLongLists(t *testing.T) {
	a := make([]int, 5000)
	for i := range a {
		a[i] = i % 7
	}
	better(t, 1, a, 1, slices.Clone(a), false)
	better(t, 1, a[:4999], 1, a, true)
	better(t, 1, a, 1, a[:4999], false)
	for _, i := range []int{0, 1, 16, 17, 4000, 4999} {
		b := slices.Clone(a)
		b[i]++
		clear(b[i+1:])
		better(t, 1, a, 1, b, true)
		better(t, 1, b, 1, a, false)
		better(t, 1, b, 2, a, true)
	}
}

func TestBetterOfMany(t *testing.T) {
	next := mix(1)
	some := func() []int {
		l := make([]int, next(4))
		for i := range l {
			l[i] = next(3)
		}
		return l
	}
	for range 20000 {
		cost, a, other, b := next(2), some(), next(2), some()
		better(t, cost, a, other, b, below(cost, a, other, b))
	}
}

// P11.2

func TestAll(t *testing.T) {
	both(t, 4, example(3), 0, [][]int{{0}, {0, 1}, {0, 2}, {0, 1, 3}}, []int{0, 1, 1, 2})
	both(t, 4, example(2), 0, [][]int{{0}, {0, 1}, {0, 2}, {0, 3}}, []int{0, 1, 1, 2})
	both(t, 4, example(1), 0, [][]int{{0}, {0, 1}, {0, 2}, {0, 3}}, []int{0, 1, 1, 1})
	both(t, 4, example(3), 1, [][]int{nil, {1}, nil, {1, 3}}, []int{-1, 0, -1, 1})
	both(t, 4, example(3), 3, [][]int{nil, nil, nil, {3}}, []int{-1, -1, -1, 0})
	both(t, 6, example(3), 2, [][]int{nil, nil, {2}, {2, 3}, nil, nil}, []int{-1, -1, 0, 1, -1, -1})
}

func TestAllWithoutLinks(t *testing.T) {
	both(t, 1, nil, 0, [][]int{{0}}, []int{0})
	both(t, 1, []api.Link{}, 0, [][]int{{0}}, []int{0})
	for n := 1; n <= 16; n++ {
		for from := range n {
			routes, costs := nothing(n)
			routes[from], costs[from] = []int{from}, 0
			both(t, n, nil, from, routes, costs)
		}
	}
}

// A node that can be reached by several routes of one cost.
func TestAllOfOneCost(t *testing.T) {
	// Fewer nodes count before smaller ones.
	both(t, 4, []api.Link{link(0, 1, 1), link(1, 2, 1), link(2, 3, 1), link(0, 2, 2)}, 0, [][]int{{0}, {0, 1}, {0, 2}, {0, 2, 3}}, []int{0, 1, 2, 3})
	// Smaller nodes count from the first one on, and not from the last one.
	l := []api.Link{link(0, 1, 3), link(1, 4, 2), link(4, 5, 1), link(0, 2, 1), link(2, 3, 2), link(3, 5, 3)}
	both(t, 6, l, 0, [][]int{{0}, {0, 1}, {0, 2}, {0, 2, 3}, {0, 1, 4}, {0, 1, 4, 5}}, []int{0, 3, 1, 3, 5, 6})
	l[0].Metric, l[2].Metric = 1, 3
	both(t, 6, l, 0, [][]int{{0}, {0, 1}, {0, 2}, {0, 2, 3}, {0, 1, 4}, {0, 1, 4, 5}}, []int{0, 1, 1, 3, 3, 6})
	// What differs is in the middle, and the smaller node is the dearer one to reach.
	l = []api.Link{link(0, 5, 1), link(5, 4, 1), link(5, 1, 3), link(4, 2, 4), link(1, 2, 2), link(2, 3, 1)}
	both(t, 6, l, 0, [][]int{{0}, {0, 5, 1}, {0, 5, 1, 2}, {0, 5, 1, 2, 3}, {0, 5, 4}, {0, 5}}, []int{0, 4, 6, 7, 2, 1})
	// Numbers of two digits are greater.
	l = []api.Link{link(0, 10, 1), link(10, 12, 1), link(0, 9, 1), link(9, 12, 1)}
	if r, _, e := Best(13, l, 0, 12); !slices.Equal(r, []int{0, 9, 12}) || e != api.OK {
		t.Errorf("%v, %d", r, e)
	}
}

// The route that is found first is neither the one of the fewest nodes nor the one of the least cost for each link.
func TestAllByCost(t *testing.T) {
	l := []api.Link{link(0, 4, 10), link(0, 1, 2), link(1, 2, 2), link(2, 3, 2), link(3, 4, 2), link(4, 0, 1)}
	both(t, 5, l, 0, [][]int{{0}, {0, 1}, {0, 1, 2}, {0, 1, 2, 3}, {0, 1, 2, 3, 4}}, []int{0, 2, 4, 6, 8})
	both(t, 5, l, 4, [][]int{{4, 0}, {4, 0, 1}, {4, 0, 1, 2}, {4, 0, 1, 2, 3}, {4}}, []int{1, 3, 5, 7, 0})
	l[0].Metric = 8
	both(t, 5, l, 0, [][]int{{0}, {0, 1}, {0, 1, 2}, {0, 1, 2, 3}, {0, 4}}, []int{0, 2, 4, 6, 8})
	l[0].Metric = 7
	both(t, 5, l, 0, [][]int{{0}, {0, 1}, {0, 1, 2}, {0, 1, 2, 3}, {0, 4}}, []int{0, 2, 4, 6, 7})
}

// Cap and Groups are nothing to a route.
func TestAllOfAnyLinks(t *testing.T) {
	l := example(3)
	l[0].Cap, l[1].Cap, l[2].Cap, l[4].Cap = 0, 1, math.MaxUint64, math.MaxUint64
	l[0].Groups, l[3].Groups = math.MaxUint32, 1
	both(t, 4, l, 0, [][]int{{0}, {0, 1}, {0, 2}, {0, 1, 3}}, []int{0, 1, 1, 2})
}

// All nodes in a row: the longest routes that there are, of the greatest costs.
func TestAllFar(t *testing.T) {
	var up, down []api.Link
	for i := range 15 {
		up = append(up, link(i, i+1, api.MaxMetric))
		down = append(down, link(i+1, i, api.MaxMetric))
	}
	for _, l := range [][]api.Link{up, down} {
		for range 2 {
			for from := range 16 {
				routes, costs := nothing(16)
				r := []int{from}
				for to := from; to >= 0 && to < 16; to += l[0].To - l[0].From {
					if to != from {
						r = append(r, to)
					}
					routes[to], costs[to] = slices.Clone(r), 65535*(len(r)-1)
				}
				both(t, 16, l, from, routes, costs)
			}
			slices.Reverse(l)
		}
	}
}

// With as many links as may be, and a better route each time that a node waits once more.
func TestAllOfManyWaiting(t *testing.T) {
	for _, n := range []int{8, 9, 16} {
		var l []api.Link
		for a := range n {
			for b := a + 1; b < n && len(l) < 64; b++ {
				// The links cost more than their parts, so that each node is found by far more than one route.
				l = append(l, link(a, b, (b-a)*(b-a)))
			}
		}
		for range 2 {
			routes, costs := byRounds(n, l, 0)
			both(t, n, l, 0, routes, costs)
			slices.Reverse(l)
		}
	}
}

// P11.2 and P11.3: wrong inputs

func TestWrongNodes(t *testing.T) {
	l := example(3)
	for _, from := range []int{math.MinInt, -4, -1, 4, 5, 16, math.MaxInt} {
		notAll(t, 4, l, from)
		notAll(t, 4, nil, from)
		for to := range 4 {
			notBest(t, 4, l, from, to, api.ErrArg)
			notBest(t, 4, l, to, from, api.ErrArg)
			notBest(t, 4, nil, from, to, api.ErrArg)
			notBest(t, 4, nil, to, from, api.ErrArg)
		}
		notBest(t, 4, l, from, from, api.ErrArg)
		notBest(t, 4, l, from, -2, api.ErrArg)
	}
	notAll(t, 16, nil, 16)
	notBest(t, 16, nil, 0, 16, api.ErrArg)
	notBest(t, 1, nil, 0, 1, api.ErrArg)
	// The last node is one.
	notBest(t, 16, nil, 0, 15, api.ErrNone)
	notBest(t, 16, nil, 15, 0, api.ErrNone)
}

func TestWrongNetworks(t *testing.T) {
	for _, n := range []int{math.MinInt, -1, 0, 17, 18, math.MaxInt} {
		for _, from := range []int{-1, 0, 1, n - 1, n} {
			notAll(t, n, nil, from)
			notAll(t, n, example(3), from)
			notBest(t, n, nil, from, 2, api.ErrArg)
			notBest(t, n, example(3), from, 3, api.ErrArg)
			notBest(t, n, example(3), 0, from, api.ErrArg)
		}
	}
	for _, x := range []api.Link{link(4, 0, 1), link(0, 4, 1), link(-1, 0, 1), link(0, -1, 1), link(2, 2, 1), link(3, 0, 0), link(3, 0, -1), link(3, 0, 65536), link(0, 1, 1), link(0, 1, 9)} {
		l := append(example(3), x)
		for from := range 4 {
			notAll(t, 4, l, from)
			for to := range 4 {
				notBest(t, 4, l, from, to, api.ErrArg)
			}
		}
	}
	notAll(t, 3, example(3), 0)
	notBest(t, 3, example(3), 0, 1, api.ErrArg)
	// ErrBig of Check is ErrArg here, too.
	l := full(9)
	if len(l) < 66 || graph.Check(9, l[:65]) != api.ErrBig {
		t.Fatal("too few links")
	}
	notAll(t, 9, l[:65], 0)
	notBest(t, 9, l[:65], 0, 1, api.ErrArg)
	best(t, 9, l[:64], 0, 1, []int{0, 1}, 1)
}

// P11.3

func TestBest(t *testing.T) {
	best(t, 4, example(3), 0, 3, []int{0, 1, 3}, 2)
	best(t, 4, example(2), 0, 3, []int{0, 3}, 2)
	notBest(t, 4, example(3), 3, 0, api.ErrNone)
	notBest(t, 4, example(3), 1, 2, api.ErrNone)
	for node := range 4 {
		notBest(t, 4, example(3), node, node, api.ErrArg)
		notBest(t, 4, nil, node, node, api.ErrArg)
	}
	notBest(t, 4, nil, 0, 3, api.ErrNone)
	// The links are in this direction only.
	l := []api.Link{link(2, 1, 65535)}
	best(t, 3, l, 2, 1, []int{2, 1}, 65535)
	notBest(t, 3, l, 1, 2, api.ErrNone)
	notBest(t, 3, l, 0, 2, api.ErrNone)
	notBest(t, 3, l, 2, 0, api.ErrNone)
}

// All the networks of three nodes whose Metrics are up to 3.
func TestSmallNetworks(t *testing.T) {
	for code := range 1 << 12 {
		var l []api.Link
		for i, x := range full(3) {
			if x.Metric = code >> (2 * i) & 3; x.Metric > 0 {
				l = append(l, x)
			}
		}
		for from := range 3 {
			routes, costs := byEach(3, l, from)
			both(t, 3, l, from, routes, costs)
		}
	}
}

func TestManyNetworks(t *testing.T) {
	next := mix(2)
	for range 900 {
		n := 1 + next(6)
		l := random(next, n, []int{1, 2, 3, 6, 65535}[next(5)])
		for from := range n {
			routes, costs := byEach(n, l, from)
			both(t, n, l, from, routes, costs)
		}
	}
}

func TestManyGreatNetworks(t *testing.T) {
	next := mix(3)
	long := 0
	for range 200 {
		n := 7 + next(10)
		l := random(next, n, []int{1, 2, 3, 6, 20, 65535}[next(6)])
		for from := range n {
			routes, costs := byRounds(n, l, from)
			both(t, n, l, from, routes, costs)
			for _, r := range routes {
				long = max(long, len(r))
			}
		}
	}
	if long < 8 {
		t.Errorf("the longest route has %d nodes", long)
	}
}

// R4: the order of the links is nothing to the routes.
func TestOrderOfLinks(t *testing.T) {
	next := mix(4)
	for range 200 {
		n := 2 + next(15)
		l := random(next, n, 1+next(4))
		from := next(n)
		routes, costs, e := All(n, l, from)
		if e != api.OK {
			t.Fatalf("All(%d, %v, %d): %d", n, l, from, e)
		}
		for range 3 {
			every(t, n, mixed(next, l), from, routes, costs)
		}
	}
}

// P11.4

func TestRoutes(t *testing.T) {
	next := mix(5)
	found := 0
	for range 150 {
		n := 2 + next(15)
		l := random(next, n, []int{1, 3, 100, 65535}[next(4)])
		for i := range n * n {
			from, to := i/n, i%n
			r, cost, e := Best(n, l, from, to)
			if from != to && (e == api.OK) != graph.Reach(n, l, from)[to] {
				t.Fatalf("Best(%d, %v, %d, %d): %d", n, l, from, to, e)
			}
			if e != api.OK {
				continue
			}
			found++
			if c, e := graph.Route(l, r); c != cost || e != api.OK || r[0] != from || r[len(r)-1] != to {
				t.Fatalf("Best(%d, %v, %d, %d) = %v, %d, but Route is %d, %d", n, l, from, to, r, cost, c, e)
			}
		}
	}
	if found < 5000 {
		t.Errorf("%d routes", found)
	}
}

// P11.5

func TestNoneBetter(t *testing.T) {
	next := mix(6)
	worse := 0
	for range 300 {
		n := 2 + next(5)
		l := random(next, n, []int{1, 2, 4, 65535}[next(4)])
		for from := range n {
			eachRoute(l, []int{from}, 0, func(r []int, cost int) {
				if len(r) < 2 {
					return
				}
				b, c, e := Best(n, l, from, r[len(r)-1])
				if e != api.OK || Better(cost, r, c, b) || below(cost, r, c, b) {
					t.Fatalf("of %v: %v of %d, but Best is %v, %d, %d", l, r, cost, b, c, e)
				}
				if Better(c, b, cost, r) {
					worse++
				} else if !slices.Equal(r, b) {
					t.Fatalf("of %v: neither %v of %d nor %v of %d is better", l, r, cost, b, c)
				}
			})
		}
	}
	if worse < 1000 {
		t.Errorf("%d routes that aren't best", worse)
	}
}

// P11.6

func TestParts(t *testing.T) {
	next := mix(7)
	parts := 0
	for range 100 {
		n := 2 + next(15)
		l := random(next, n, []int{1, 2, 3, 65535}[next(4)])
		for from := range n {
			routes, costs, e := All(n, l, from)
			if e != api.OK {
				t.Fatalf("All(%d, %v, %d): %d", n, l, from, e)
			}
			for _, r := range routes {
				for i, node := range r {
					if !slices.Equal(r[:i+1], routes[node]) {
						t.Fatalf("of %v: %v begins with another route than %v", l, r, routes[node])
					}
					if i > 0 {
						parts++
						best(t, n, l, from, node, r[:i+1], costs[node])
					}
				}
			}
		}
	}
	if parts < 5000 {
		t.Errorf("%d parts", parts)
	}
}
