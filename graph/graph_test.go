package graph

import (
	"math"
	"slices"
	"testing"

	"viaduct/api"
)

// mix answers numbers without an order to be seen, the same in every run.
func mix(seed uint64) func(n int) int {
	return func(n int) int {
		seed = seed*6364136223846793005 + 1442695040888963407
		return int(((seed ^ seed>>29) >> 8) % uint64(n))
	}
}

func link(from, to, metric int) api.Link {
	return api.Link{From: from, To: to, Metric: metric}
}

// example is the network of the chapter.
func example() []api.Link {
	return []api.Link{link(0, 1, 5), link(1, 2, 7), link(1, 0, 1)}
}

// full has the links between all of n nodes, up to so many, of different Metrics.
func full(n, most int) []api.Link {
	var all []api.Link
	for i := range n * n {
		if i/n != i%n && len(all) < most {
			all = append(all, link(i/n, i%n, 1+i))
		}
	}
	return all
}

// random is a network, and the number of its nodes.
func random(next func(n int) int) (int, []api.Link) {
	n := 1 + next(16)
	all := full(n, n*n)
	for i := range all {
		j := i + next(len(all)-i)
		all[i], all[j] = all[j], all[i]
		all[i].Metric = 1 + next(65535)
	}
	return n, all[:next(min(len(all), 64)+1)]
}

// loose is a list of links that needn't be a network: with any ends, some of them often.
func loose(next func(n int) int) []api.Link {
	var all []api.Link
	for range next(150) {
		all = append(all, link(next(9)-2, next(9)-2, next(2000)-1000))
	}
	return all
}

// check asks for an error's number, and that the links stay as they are.
func check(t *testing.T, n int, l []api.Link, want api.Errno) {
	t.Helper()
	kept := slices.Clone(l)
	if e := Check(n, l); e != want {
		t.Fatalf("Check(%d, %v) = %d, not %d", n, l, e, want)
	}
	if !slices.Equal(l, kept) {
		t.Fatalf("Check(%d, ..) changed %v into %v", n, kept, l)
	}
}

func find(t *testing.T, l []api.Link, from, to, want int) {
	t.Helper()
	if i := Find(l, from, to); i != want {
		t.Fatalf("Find(%v, %d, %d) = %d, not %d", l, from, to, i, want)
	}
}

// list asks for what Outs or Near return, and that the links stay as they are, whatever becomes of the result.
func list(t *testing.T, ask func(l []api.Link, node int) []int, l []api.Link, node int, want ...int) {
	t.Helper()
	kept := slices.Clone(l)
	for range 2 {
		got := ask(l, node)
		if !slices.Equal(got, want) {
			t.Fatalf("of %d in %v: %v, not %v", node, l, got, want)
		}
		clear(got[:cap(got)])
	}
	if !slices.Equal(l, kept) {
		t.Fatalf("%v was changed into %v", kept, l)
	}
}

// cost asks for that of a route.
func cost(t *testing.T, l []api.Link, route []int, want int) {
	t.Helper()
	kept := slices.Clone(route)
	if n, e := Route(l, route); n != want || e != api.OK {
		t.Fatalf("Route(%v, %v) = %d, %d, not %d", l, route, n, e, want)
	}
	if !slices.Equal(route, kept) {
		t.Fatalf("Route changed %v into %v", kept, route)
	}
}

// noRoute asks for ErrRoute, without a cost beside it.
func noRoute(t *testing.T, l []api.Link, route ...int) {
	t.Helper()
	if n, e := Route(l, route); n != 0 || e != api.ErrRoute {
		t.Fatalf("Route(%v, %v) = %d, %d, not ErrRoute", l, route, n, e)
	}
}

// reach asks which nodes can be reached, in letters: x is one that can.
func reach(t *testing.T, n int, l []api.Link, from int, want string) {
	t.Helper()
	kept := slices.Clone(l)
	for range 2 {
		got := Reach(n, l, from)
		text := ""
		for _, r := range got {
			if r {
				text += "x"
			} else {
				text += "."
			}
		}
		if text != want {
			t.Fatalf("Reach(%d, %v, %d) = %s, not %s", n, l, from, text, want)
		}
		for i := range got {
			got[i] = !got[i]
		}
	}
	if !slices.Equal(l, kept) {
		t.Fatalf("Reach changed %v into %v", kept, l)
	}
}

// P9.1

func TestCheck(t *testing.T) {
	check(t, 3, example(), api.OK)
	for n := 1; n <= 16; n++ {
		check(t, n, nil, api.OK)
		check(t, n, []api.Link{}, api.OK)
		check(t, n, full(n, 64), api.OK)
	}
}

func TestCheckNodes(t *testing.T) {
	for _, n := range []int{math.MinInt, -1, 0, 17, 18, 256, 1<<32 + 1, math.MaxInt} {
		check(t, n, nil, api.ErrArg)
		check(t, n, example(), api.ErrArg)
		// R2: this error is named before those of the links.
		check(t, n, make([]api.Link, 65), api.ErrArg)
		check(t, n, full(16, 65), api.ErrArg)
	}
}

func TestCheckLinks(t *testing.T) {
	for most := range 65 {
		check(t, 16, full(16, most), api.OK)
	}
	for _, most := range []int{65, 66, 128, 240} {
		check(t, 16, full(16, most), api.ErrBig)
	}
	// R2: this error is named before those of a link.
	for _, x := range []api.Link{link(16, 0, 1), link(0, 0, 1), link(0, 1, 0), link(0, 1, 1)} {
		check(t, 16, append(full(16, 64), x), api.ErrBig)
		check(t, 16, append([]api.Link{x}, full(16, 64)...), api.ErrBig)
	}
	check(t, 1, make([]api.Link, 65), api.ErrBig)
	check(t, 2, full(9, 64), api.ErrArg)
}

func TestCheckLink(t *testing.T) {
	for _, c := range []struct {
		n    int
		x    api.Link
		want api.Errno
	}{
		{2, link(0, 1, 1), api.OK}, {2, link(1, 0, 1), api.OK}, {16, link(0, 15, 1), api.OK}, {16, link(15, 0, 1), api.OK}, {16, link(15, 14, 1), api.OK},
		{1, link(0, 1, 1), api.ErrArg}, {1, link(1, 0, 1), api.ErrArg}, {1, link(0, 0, 1), api.ErrArg},
		{2, link(0, 2, 1), api.ErrArg}, {2, link(2, 0, 1), api.ErrArg}, {3, link(0, 2, 1), api.OK}, {3, link(2, 0, 1), api.OK},
		{3, link(3, 0, 1), api.ErrArg}, {3, link(0, 3, 1), api.ErrArg}, {16, link(16, 0, 1), api.ErrArg}, {16, link(0, 16, 1), api.ErrArg},
		{3, link(-1, 0, 1), api.ErrArg}, {3, link(0, -1, 1), api.ErrArg}, {3, link(-1, -2, 1), api.ErrArg}, {3, link(7, 9, 1), api.ErrArg},
		{3, link(math.MinInt, 0, 1), api.ErrArg}, {3, link(0, math.MinInt, 1), api.ErrArg}, {3, link(math.MaxInt, 0, 1), api.ErrArg}, {3, link(0, math.MaxInt, 1), api.ErrArg},
		{3, link(0, 0, 1), api.ErrArg}, {3, link(1, 1, 1), api.ErrArg}, {3, link(2, 2, 1), api.ErrArg}, {16, link(15, 15, 1), api.ErrArg},
		{3, link(0, 1, 0), api.ErrArg}, {3, link(0, 1, -1), api.ErrArg}, {3, link(0, 1, math.MinInt), api.ErrArg},
		{3, link(0, 1, 2), api.OK}, {3, link(0, 1, 256), api.OK}, {3, link(0, 1, 65534), api.OK}, {3, link(0, 1, 65535), api.OK},
		{3, link(0, 1, 65536), api.ErrArg}, {3, link(0, 1, 65537), api.ErrArg}, {3, link(0, 1, math.MaxInt), api.ErrArg},
		{2, api.Link{From: 0, To: 1, Metric: 1, Cap: math.MaxUint64, Groups: math.MaxUint32}, api.OK},
		{2, api.Link{From: 0, To: 1, Cap: 1, Groups: 1}, api.ErrArg},
	} {
		check(t, c.n, []api.Link{c.x}, c.want)
	}
}

// The one link that may not be is at each place.
func TestCheckEachLink(t *testing.T) {
	for _, x := range []api.Link{link(9, 0, 1), link(0, 9, 1), link(-1, 0, 1), link(0, -1, 1), link(4, 4, 1), link(0, 1, 0), link(0, 1, 65536)} {
		for i := range 64 {
			l := full(9, 64)
			l[i] = x
			check(t, 9, l, api.ErrArg)
		}
	}
}

func TestCheckTwice(t *testing.T) {
	for i := range 64 {
		for j := range i {
			l := full(9, 64)
			l[i].From, l[i].To = l[j].From, l[j].To
			check(t, 9, l, api.ErrArg)
		}
	}
	// With anything else they are still links with the same ends.
	for _, x := range []api.Link{{Metric: 5}, {Metric: 6}, {Metric: 5, Cap: 7}, {Metric: 5, Groups: 7}} {
		x.From, x.To = 0, 1
		check(t, 3, append(example(), x), api.ErrArg)
	}
	check(t, 3, append(example(), link(2, 1, 7), link(0, 2, 5), link(2, 0, 5)), api.OK)
	// What one call has seen is nothing to the next one.
	check(t, 3, example(), api.OK)
	check(t, 3, example(), api.OK)
}

// P9.2

func TestFind(t *testing.T) {
	l := example()
	for _, c := range [][3]int{{0, 1, 0}, {1, 2, 1}, {1, 0, 2}, {2, 1, -1}, {0, 2, -1}, {2, 0, -1}, {0, 0, -1}, {1, 1, -1}, {3, 0, -1}, {-1, 0, -1}, {0, -1, -1}, {math.MaxInt, math.MinInt, -1}} {
		find(t, l, c[0], c[1], c[2])
	}
	find(t, nil, 0, 0, -1)
	find(t, []api.Link{}, 0, 1, -1)
}

func TestFindSmallest(t *testing.T) {
	l := []api.Link{link(2, 1, 1), link(1, 2, 9), link(1, 2, 3), link(2, 1, 4), link(1, 2, 9)}
	find(t, l, 1, 2, 1)
	find(t, l, 2, 1, 0)
	find(t, l[2:], 1, 2, 0)
	find(t, l[2:], 2, 1, 1)
}

func TestOuts(t *testing.T) {
	list(t, Outs, example(), 0, 0)
	list(t, Outs, example(), 1, 2, 1)
	for _, node := range []int{2, 3, -1, math.MinInt, math.MaxInt} {
		list(t, Outs, example(), node)
	}
	list(t, Outs, nil, 0)
	list(t, Outs, []api.Link{}, 0)
	l := []api.Link{link(4, 15, 1), link(4, 2, 2), link(0, 4, 3), link(4, 10, 4), link(4, 0, 5), link(4, 3, 6), link(2, 4, 7), link(4, 1, 9)}
	list(t, Outs, l, 4, 4, 7, 1, 5, 3, 0)
}

func TestOutsToTheSame(t *testing.T) {
	l := []api.Link{link(1, 5, 9), link(1, 2, 8), link(1, 5, 7), link(1, 2, 6), link(2, 5, 5), link(1, 5, 4), link(1, 2, 8), link(1, 1, 2), link(1, -3, 1)}
	list(t, Outs, l, 1, 8, 7, 1, 3, 6, 0, 2, 5)
	var many []api.Link
	var want []int
	for i := range 300 {
		many = append(many, link(3, i/100, 300-i), link(i/100, 3, i))
		want = append(want, 2*i)
	}
	list(t, Outs, many, 3, want...)
}

func TestNear(t *testing.T) {
	list(t, Near, example(), 0, 1)
	list(t, Near, example(), 1, 0, 2)
	list(t, Near, example(), 2, 1)
	for _, node := range []int{3, -1, math.MinInt, math.MaxInt} {
		list(t, Near, example(), node)
	}
	list(t, Near, nil, 0)
	list(t, Near, []api.Link{}, 0)
	l := []api.Link{link(4, 15, 1), link(4, 2, 2), link(0, 4, 3), link(4, 10, 4), link(7, 4, 5), link(15, 4, 6), link(2, 4, 7), link(7, 2, 8), link(4, 2, 9)}
	list(t, Near, l, 4, 0, 2, 7, 10, 15)
	list(t, Near, l, 15, 4)
	list(t, Near, l, 2, 4, 7)
}

// A link of a node that leads to itself leads to that node.
func TestNearItself(t *testing.T) {
	list(t, Near, []api.Link{link(3, 3, 1)}, 3, 3)
	list(t, Near, []api.Link{link(3, 3, 1), link(3, 9, 1), link(1, 3, 1)}, 3, 1, 3, 9)
}

// P9.2 against what its words say of each number in turn.
func TestAsksOfAnyLinks(t *testing.T) {
	next := mix(1)
	for range 300 {
		l := loose(next)
		for node := -3; node < 8; node++ {
			var outs, near []int
			for other := -3; other < 8; other++ {
				first, ends := -1, 0
				for i, x := range l {
					if x.From == node && x.To == other {
						outs = append(outs, i)
						if first < 0 {
							first = i
						}
					}
					if x.From == node && x.To == other || x.From == other && x.To == node {
						ends++
					}
				}
				find(t, l, node, other, first)
				if ends > 0 {
					near = append(near, other)
				}
			}
			list(t, Outs, l, node, outs...)
			list(t, Near, l, node, near...)
		}
	}
}

// P9.3

func TestRoute(t *testing.T) {
	l := example()
	cost(t, l, []int{0, 1, 2}, 12)
	cost(t, l, []int{0, 1}, 5)
	cost(t, l, []int{1, 2}, 7)
	cost(t, l, []int{1, 0}, 1)
}

func TestNoRoute(t *testing.T) {
	l := example()
	noRoute(t, l)
	for _, r := range [][]int{{}, {0}, {1}, {0, 2}, {2, 1}, {2, 0}, {1, 2, 0}, {0, 1, 3}, {3, 0, 1}, {-1, 0}, {0, 1, 2, 1}, {2, 1, 0}, {math.MinInt, math.MaxInt}} {
		noRoute(t, l, r...)
		noRoute(t, nil, r...)
	}
}

// Each link is there, so that only the same node stands against it.
func TestRouteTwiceThrough(t *testing.T) {
	noRoute(t, example(), 0, 1, 0)
	noRoute(t, example(), 1, 0, 1)
	noRoute(t, example(), 1, 0, 1, 2)
	noRoute(t, []api.Link{link(3, 3, 1)}, 3, 3)
	l := append(full(6, 36), link(2, 2, 1))
	cost(t, l, []int{5, 4, 3, 2, 1}, 1+34+1+27+1+20+1+13)
	for _, r := range [][]int{{5, 4, 3, 2, 5}, {5, 4, 3, 4, 1}, {5, 4, 5, 2, 1}, {5, 4, 3, 5, 1}, {4, 5, 4, 2, 1}, {5, 4, 2, 2, 1}, {5, 1, 2, 3, 1}} {
		noRoute(t, l, r...)
	}
}

func TestRouteLengths(t *testing.T) {
	var l []api.Link
	r := []int{0}
	for i := range 40 {
		l = append(l, link(i, i+1, 100+i))
		r = append(r, i+1)
	}
	sum := 0
	for n := 2; n <= 16; n++ {
		sum += 100 + n - 2
		cost(t, l, r[:n], sum)
	}
	cost(t, l, r[24:40], 15*124+14*15/2)
	for _, n := range []int{0, 1, 17, 18, 32, 41} {
		noRoute(t, l, r[:n]...)
	}
	noRoute(t, l, make([]int, 17)...)
	noRoute(t, l, make([]int, 1000)...)
}

func TestRouteOfGreatMetrics(t *testing.T) {
	var l []api.Link
	var r []int
	for i := range 15 {
		l = append(l, link(15-i, 14-i, 65535))
		r = append(r, 15-i)
	}
	check(t, 16, l, api.OK)
	cost(t, l, append(r, 0), 15*65535)
}

// Of links with the same ends the one that Find returns counts, and not the cheapest one.
func TestRouteByFind(t *testing.T) {
	l := []api.Link{link(1, 2, 40), link(0, 1, 9), link(1, 2, 3), link(0, 1, 80), link(1, 2, 7)}
	cost(t, l, []int{0, 1, 2}, 49)
	cost(t, l[1:], []int{0, 1, 2}, 12)
	cost(t, l[2:], []int{0, 1, 2}, 83)
}

// P9.4

func TestReach(t *testing.T) {
	l := example()
	reach(t, 3, l, 0, "xxx")
	reach(t, 3, l, 1, "xxx")
	reach(t, 3, l, 2, "..x")
	reach(t, 5, l, 0, "xxx..")
	reach(t, 5, l, 4, "....x")
	reach(t, 1, nil, 0, "x")
	reach(t, 16, nil, 15, "...............x")
	reach(t, 16, []api.Link{}, 0, "x...............")
	reach(t, 6, []api.Link{link(0, 1, 1), link(1, 2, 1), link(2, 0, 1), link(3, 4, 1), link(5, 3, 1), link(4, 5, 1)}, 1, "xxx...")
	reach(t, 6, []api.Link{link(0, 1, 1), link(1, 2, 1), link(2, 0, 1), link(3, 4, 1), link(5, 3, 1), link(4, 5, 1), link(4, 0, 1)}, 5, "xxxxxx")
}

// All nodes in a row, and the links in any order, so that each has to be found after the one before it.
func TestReachFar(t *testing.T) {
	var up, down []api.Link
	for i := range 15 {
		up = append(up, link(i, i+1, 1))
		down = append(down, link(i+1, i, 65535))
	}
	for _, l := range [][]api.Link{up, down} {
		for range 2 {
			for from := range 16 {
				want := ""
				for node := range 16 {
					if node == from || node > from == (l[0].To > l[0].From) {
						want += "x"
					} else {
						want += "."
					}
				}
				reach(t, 16, l, from, want)
			}
			slices.Reverse(l)
		}
	}
}

func TestReachOfNone(t *testing.T) {
	l := example()
	for _, from := range []int{math.MinInt, -1, 3, 4, 16, math.MaxInt} {
		reach(t, 3, l, from, "")
	}
	reach(t, 16, nil, 16, "")
	for _, n := range []int{math.MinInt, -1, 0, 17, math.MaxInt} {
		reach(t, n, nil, 0, "")
		reach(t, n, l, n-1, "")
	}
	reach(t, 2, l, 0, "")
	reach(t, 16, full(16, 64), 5, ".....x..........")
	reach(t, 16, full(16, 64), 3, "xxxxxxxxxxxxxxxx")
	reach(t, 16, full(16, 65), 3, "")
	for _, x := range []api.Link{link(0, 3, 1), link(0, -1, 1), link(2, 2, 1), link(2, 0, 0), link(2, 0, 65536), link(0, 1, 5)} {
		for from := range 3 {
			reach(t, 3, append(example(), x), from, "")
		}
	}
}

// reached is what Reach returns by another way: a table of all pairs of nodes, by one node after the other between them.
func reached(n int, l []api.Link, from int) string {
	var to [16][16]bool
	for i := range n {
		to[i][i] = true
	}
	for _, x := range l {
		to[x.From][x.To] = true
	}
	for k := range n {
		for i := range n {
			for j := range n {
				to[i][j] = to[i][j] || to[i][k] && to[k][j]
			}
		}
	}
	text := ""
	for i := range n {
		if to[from][i] {
			text += "x"
		} else {
			text += "."
		}
	}
	return text
}

func TestReachOfMany(t *testing.T) {
	next := mix(2)
	for range 1000 {
		n, l := random(next)
		check(t, n, l, api.OK)
		for from := range n {
			reach(t, n, l, from, reached(n, l, from))
		}
	}
}

// P9.5

func TestNeighbors(t *testing.T) {
	next := mix(3)
	for i := range 600 {
		_, l := random(next)
		if i%2 == 1 {
			l = loose(next)
		}
		for node := -3; node < 17; node++ {
			for _, other := range Near(l, node) {
				if !slices.Contains(Near(l, other), node) {
					t.Fatalf("%v: %d is near %d, and not the other way round", l, other, node)
				}
			}
		}
	}
}

// P9.6

// wander is a route that goes on as long as it can, by any links.
func wander(next func(n int) int, l []api.Link, from int) []int {
	r := []int{from}
	for {
		var further []int
		for _, i := range Outs(l, r[len(r)-1]) {
			if !slices.Contains(r, l[i].To) {
				further = append(further, l[i].To)
			}
		}
		if len(further) == 0 {
			return r
		}
		r = append(r, further[next(len(further))])
	}
}

func TestParts(t *testing.T) {
	next := mix(4)
	long := 0
	for range 1000 {
		n, l := random(next)
		r := wander(next, l, next(n))
		if len(r) < 2 {
			noRoute(t, l, r...)
			continue
		}
		long = max(long, len(r))
		sum := 0
		for i := range len(r) - 1 {
			sum += l[Find(l, r[i], r[i+1])].Metric
		}
		cost(t, l, r, sum)
		for i := 1; i < len(r)-1; i++ {
			one, e := Route(l, r[:i+1])
			two, f := Route(l, r[i:])
			if one+two != sum || e != api.OK || f != api.OK {
				t.Fatalf("%v of %d, divided at %d: %d, %d and %d, %d", r, sum, i, one, e, two, f)
			}
		}
		can := Reach(n, l, r[0])
		for _, node := range r {
			if !can[node] {
				t.Fatalf("%v: %d isn't reached", r, node)
			}
		}
	}
	if long < 12 {
		t.Errorf("the longest route has %d nodes", long)
	}
}

// The other direction of a route is one if all its links are there.
func TestBothDirections(t *testing.T) {
	next := mix(5)
	for range 300 {
		n, l := random(next)
		r := wander(next, l, next(n))
		slices.Reverse(r)
		ok := len(r) >= 2
		for i := range len(r) - 1 {
			ok = ok && slices.ContainsFunc(l, func(x api.Link) bool { return x.From == r[i] && x.To == r[i+1] })
		}
		if _, e := Route(l, r); (e == api.OK) != ok {
			t.Fatalf("Route(%v, %v): %d", l, r, e)
		}
	}
}
