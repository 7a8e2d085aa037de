package cspf

import (
	"math"
	"reflect"
	"slices"
	"testing"

	"viaduct/api"
	"viaduct/graph"
	"viaduct/group"
	"viaduct/prune"
	"viaduct/spf"
	"viaduct/tedb"
)

// most is the greatest number of 64 bits.
const most = math.MaxUint64

// mix answers numbers from 0 to n - 1 without an order to be seen, the same in every run.
func mix(seed uint64) func(n int) int {
	return func(n int) int {
		seed = seed*6364136223846793005 + 1442695040888963407
		return int(((seed ^ seed>>29) >> 8) % uint64(n))
	}
}

// link is one that is up, without groups, with 10 free for each priority.
func link(from, to, metric int) tedb.Advert {
	return tedb.Advert{Link: api.Link{From: from, To: to, Cap: 10, Metric: metric}, Up: true, Free: [8]uint64{10, 10, 10, 10, 10, 10, 10, 10}}
}

// example is the network of the chapter.
func example() []tedb.Advert {
	return []tedb.Advert{link(0, 1, 1), link(1, 2, 1), link(2, 3, 1), link(0, 3, 5)}
}

// chain has links of 1 from each of n nodes to the next one.
func chain(n int) []tedb.Advert {
	var all []tedb.Advert
	for i := range n - 1 {
		all = append(all, link(i, i+1, 1))
	}
	return all
}

// full has the links between all of n nodes.
func full(n int) []tedb.Advert {
	var all []tedb.Advert
	for i := range n * n {
		if i/n != i%n {
			all = append(all, link(i/n, i%n, 1))
		}
	}
	return all
}

// mixed is a list of advertisements in another order.
func mixed(next func(n int) int, l []tedb.Advert) []tedb.Advert {
	l = slices.Clone(l)
	for i := range l {
		j := i + next(len(l)-i)
		l[i], l[j] = l[j], l[i]
	}
	return l
}

// hops is an ask for so many links at the most, and for nothing else.
func hops(most int) prune.Ask {
	return prune.Ask{Hops: most}
}

// noNodes is an ask for a route without some nodes.
func noNodes(nodes ...int) prune.Ask {
	return prune.Ask{NoNodes: nodes}
}

// wants is an ask for constraints alone.
func wants(w api.Want) prune.Ask {
	return prune.Ask{Want: w}
}

// copied is an ask in memory of its own.
func copied(a prune.Ask) prune.Ask {
	a.NoNodes, a.NoLinks, a.Own = slices.Clone(a.NoNodes), slices.Clone(a.NoLinks), slices.Clone(a.Own)
	return a
}

// spoil sets all the memory of a route, its capacity included, to what is no node.
func spoil(r []int) {
	for i := range r[:cap(r)] {
		r[:cap(r)][i] = -7
	}
}

// finds asks for a route, twice, and that the arguments stay as they are, whatever becomes of the result.
func finds(t *testing.T, n int, l []tedb.Advert, a prune.Ask, from, to int, route []int, cost int) {
	t.Helper()
	before, asked := slices.Clone(l), copied(a)
	for range 2 {
		r, c, e := Find(n, l, a, from, to)
		if !slices.Equal(r, route) || c != cost || e != api.OK {
			t.Fatalf("Find(%d, %v, %+v, %d, %d) = %v, %d, %d, not %v, %d", n, l, a, from, to, r, c, e, route, cost)
		}
		spoil(r)
	}
	if !slices.Equal(l, before) || !reflect.DeepEqual(a, asked) {
		t.Fatalf("Find changed %v or %+v into %v, %+v", before, asked, l, a)
	}
}

// fails asks for an error, without results beside it.
func fails(t *testing.T, n int, l []tedb.Advert, a prune.Ask, from, to int, want api.Errno) {
	t.Helper()
	before, asked := slices.Clone(l), copied(a)
	if r, c, e := Find(n, l, a, from, to); len(r) != 0 || c != 0 || e != want {
		t.Fatalf("Find(%d, %v, %+v, %d, %d) = %v, %d, %d, not the error %d", n, l, a, from, to, r, c, e, want)
	}
	if !slices.Equal(l, before) || !reflect.DeepEqual(a, asked) {
		t.Fatalf("Find changed %v or %+v into %v, %+v", before, asked, l, a)
	}
}

// answers asks for a route, or for ErrNone if there is none.
func answers(t *testing.T, n int, l []tedb.Advert, a prune.Ask, from, to int, route []int, cost int) {
	t.Helper()
	if len(route) == 0 {
		fails(t, n, l, a, from, to, api.ErrNone)
	} else {
		finds(t, n, l, a, from, to, route, cost)
	}
}

// below says by another way whether a route is better than another one.
func below(cost int, a []int, other int, b []int) bool {
	if cost != other {
		return cost < other
	}
	if len(a) != len(b) {
		return len(a) < len(b)
	}
	for i := range a {
		if a[i] != b[i] {
			return a[i] < b[i]
		}
	}
	return false
}

// eachRoute goes through the routes that begin with r and satisfy an ask, and their costs.
func eachRoute(l []tedb.Advert, a prune.Ask, r []int, cost int, tell func(r []int, cost int)) {
	if len(r) > 1 {
		tell(r, cost)
	}
	if a.Hops != 0 && len(r) > a.Hops {
		return
	}
	for _, x := range l {
		if x.Link.From == r[len(r)-1] && !slices.Contains(r, x.Link.To) && prune.Fits(x, a) {
			eachRoute(l, a, append(slices.Clone(r), x.Link.To), cost+x.Link.Metric, tell)
		}
	}
}

// byEach is what Find returns for each node by another way: the best one of all the routes that there are.
func byEach(n int, l []tedb.Advert, a prune.Ask, from int) ([][]int, []int) {
	routes, costs := make([][]int, n), make([]int, n)
	eachRoute(l, a, []int{from}, 0, func(r []int, cost int) {
		to := r[len(r)-1]
		if len(routes[to]) == 0 || below(cost, r, costs[to], routes[to]) {
			routes[to], costs[to] = r, cost
		}
	})
	return routes, costs
}

// byRounds is what Find returns for each node by a third way: all the nodes one link further in each round. It is for networks with too many routes to go through.
func byRounds(n int, l []tedb.Advert, a prune.Ask, from int) ([][]int, []int) {
	routes, costs := make([][]int, n), make([]int, n)
	last, spent := make([][]int, n), make([]int, n)
	last[from] = []int{from}
	for round := 1; round <= 15 && (a.Hops == 0 || round <= a.Hops); round++ {
		now, sums := make([][]int, n), make([]int, n)
		for _, x := range l {
			from, to := x.Link.From, x.Link.To
			if len(last[from]) == 0 || !prune.Fits(x, a) {
				continue
			}
			r, cost := append(slices.Clone(last[from]), to), spent[from]+x.Link.Metric
			if len(now[to]) == 0 || below(cost, r, sums[to], now[to]) {
				now[to], sums[to] = r, cost
			}
		}
		for node, r := range now {
			if node != from && len(r) > 0 && (len(routes[node]) == 0 || below(sums[node], r, costs[node], routes[node])) {
				routes[node], costs[node] = r, sums[node]
			}
		}
		last, spent = now, sums
	}
	return routes, costs
}

// each asks for the routes from a node to each of the other ones.
func each(t *testing.T, n int, l []tedb.Advert, a prune.Ask, from int, routes [][]int, costs []int) {
	t.Helper()
	for to := range n {
		if to == from {
			fails(t, n, l, a, from, to, api.ErrArg)
		} else {
			answers(t, n, l, a, from, to, routes[to], costs[to])
		}
	}
}

// bits are of any of four groups, mostly few.
func bits(next func(n int) int) uint32 {
	return uint32(next(16) & next(16) & next(16))
}

// random are advertisements of n nodes, whose Metrics are up to highest: if that is low, many routes cost the same. Most of the links are up, and have enough bandwidth for most asks.
func random(next func(n int) int, n, highest int) []tedb.Advert {
	all := mixed(next, full(n))
	all = all[:min(n+next(3*n+1), len(all), 64)]
	for i := range all {
		x := &all[i]
		x.Link.Metric, x.Link.Groups = 1+next(highest), uint32(next(16)|next(16))
		x.Seq, x.Up = next(9), next(12) > 0
		for p := range x.Free {
			x.Free[p] = uint64(10 - next(p+2))
		}
	}
	return all
}

// stretched are advertisements of n nodes in any order, with a link of low cost from each to the next one. The further another link leads, the more it costs, beyond what the ones on its way cost: so routes of each length are the best ones for some limit.
func stretched(next func(n int) int, n int) []tedb.Advert {
	order := make([]int, n)
	for i := range order {
		j := next(i + 1)
		order[i], order[j] = order[j], i
	}
	var near, far []tedb.Advert
	for _, x := range full(n) {
		steps := x.Link.To - x.Link.From
		x.Link.Metric = steps*steps*3 + next(3)
		x.Link.From, x.Link.To = order[x.Link.From], order[x.Link.To]
		if steps == 1 {
			near = append(near, x)
		} else {
			far = append(far, x)
		}
	}
	all := append(near, mixed(next, far)...)
	return mixed(next, all[:min(len(all), 64)])
}

// ask is one of a route of n nodes, with a few constraints of each kind, and a valid Want.
func ask(next func(n int) int, n int) prune.Ask {
	setup := next(8)
	a := prune.Ask{Want: api.Want{Bw: uint64(next(10)), Setup: setup, Hold: next(setup + 1), Any: bits(next), All: bits(next) & bits(next), None: bits(next) & bits(next)}}
	for range next(3) - 1 {
		a.NoNodes = append(a.NoNodes, next(n+3)-1)
	}
	for range next(3) {
		a.NoLinks = append(a.NoLinks, [2]int{next(n), next(n)})
	}
	for range next(6) {
		a.Own = append(a.Own, prune.Own{From: next(n), To: next(n), Bw: uint64(next(4))})
	}
	if next(2) == 0 {
		a.Hops = 1 + next(n+1)
	}
	return a
}

// P17.1

func TestExample(t *testing.T) {
	l := example()
	finds(t, 4, l, prune.Ask{}, 0, 3, []int{0, 1, 2, 3}, 3)
	finds(t, 4, l, hops(2), 0, 3, []int{0, 3}, 5)
	finds(t, 4, l, prune.Ask{NoNodes: []int{1}, Hops: 1}, 0, 3, []int{0, 3}, 5)
	l[3].Up = false
	fails(t, 4, l, prune.Ask{NoNodes: []int{1}, Hops: 1}, 0, 3, api.ErrNone)
	finds(t, 4, l, prune.Ask{}, 0, 3, []int{0, 1, 2, 3}, 3)
	fails(t, 4, l, hops(2), 0, 3, api.ErrNone)
}

// The links are in one direction only.
func TestDirections(t *testing.T) {
	l := []tedb.Advert{link(2, 1, 65535)}
	finds(t, 3, l, prune.Ask{}, 2, 1, []int{2, 1}, 65535)
	finds(t, 3, l, hops(1), 2, 1, []int{2, 1}, 65535)
	fails(t, 3, l, prune.Ask{}, 1, 2, api.ErrNone)
	fails(t, 3, l, prune.Ask{}, 0, 2, api.ErrNone)
	fails(t, 3, l, prune.Ask{}, 2, 0, api.ErrNone)
	fails(t, 3, nil, prune.Ask{}, 0, 2, api.ErrNone)
	fails(t, 3, []tedb.Advert{}, prune.Ask{}, 0, 2, api.ErrNone)
	fails(t, 4, example(), prune.Ask{}, 3, 0, api.ErrNone)
	fails(t, 4, example(), hops(3), 2, 1, api.ErrNone)
}

// Of routes of the same cost the one of the fewest nodes is the best, then the one of the smaller nodes.
func TestTies(t *testing.T) {
	l := []tedb.Advert{link(0, 4, 1), link(4, 5, 1), link(0, 3, 1), link(3, 5, 1), link(0, 1, 1), link(1, 2, 1), link(2, 5, 1)}
	finds(t, 6, l, prune.Ask{}, 0, 5, []int{0, 3, 5}, 2)
	finds(t, 6, l, noNodes(3), 0, 5, []int{0, 4, 5}, 2)
	finds(t, 6, l, noNodes(3, 4), 0, 5, []int{0, 1, 2, 5}, 3)
	l = append(l, link(0, 5, 2))
	finds(t, 6, l, prune.Ask{}, 0, 5, []int{0, 5}, 2)
	l[7].Link.Metric = 3
	finds(t, 6, l, prune.Ask{}, 0, 5, []int{0, 3, 5}, 2)
	finds(t, 6, l, noNodes(3, 4), 0, 5, []int{0, 5}, 3)
	l[7].Link.Metric = 4
	finds(t, 6, l, noNodes(3, 4), 0, 5, []int{0, 1, 2, 5}, 3)
	finds(t, 6, l, prune.Ask{NoNodes: []int{3, 4}, Hops: 2}, 0, 5, []int{0, 5}, 4)
	// The first node at which they differ counts: not the last one, nor the greatest one.
	l = []tedb.Advert{link(0, 9, 2), link(9, 1, 2), link(1, 15, 2), link(0, 8, 2), link(8, 14, 2), link(14, 15, 2)}
	finds(t, 16, l, prune.Ask{}, 0, 15, []int{0, 8, 14, 15}, 6)
	l = append(l, link(8, 1, 2))
	finds(t, 16, l, prune.Ask{}, 0, 15, []int{0, 8, 1, 15}, 6)
	finds(t, 16, l, hops(3), 0, 15, []int{0, 8, 1, 15}, 6)
	fails(t, 16, l, hops(2), 0, 15, api.ErrNone)
}

// A route to 2 that costs more is the one that goes on, as it has fewer links, if Hops says so.
func TestTwoRoutesToOneNode(t *testing.T) {
	l := []tedb.Advert{link(0, 1, 1), link(1, 2, 1), link(0, 2, 9), link(2, 3, 1), link(3, 4, 1), link(2, 4, 10), link(0, 4, 100)}
	finds(t, 5, l, prune.Ask{}, 0, 4, []int{0, 1, 2, 3, 4}, 4)
	finds(t, 5, l, hops(4), 0, 4, []int{0, 1, 2, 3, 4}, 4)
	finds(t, 5, l, hops(3), 0, 4, []int{0, 2, 3, 4}, 11)
	finds(t, 5, l, hops(2), 0, 4, []int{0, 2, 4}, 19)
	finds(t, 5, l, hops(1), 0, 4, []int{0, 4}, 100)
	finds(t, 5, l, hops(2), 0, 2, []int{0, 1, 2}, 2)
	finds(t, 5, l, hops(1), 0, 2, []int{0, 2}, 9)
	// With three links both routes to 4 cost the same now, so that the nodes decide.
	l[2].Link.Metric = 10
	finds(t, 5, l, hops(3), 0, 4, []int{0, 1, 2, 4}, 12)
}

// With as many links as Hops allows, a node that was there already could be come to for less.
func TestLoopsAreNoRoutes(t *testing.T) {
	l := []tedb.Advert{link(0, 1, 1), link(1, 0, 1), link(1, 2, 1), link(2, 1, 1), link(0, 3, 50), link(3, 2, 50), link(2, 4, 1), link(4, 2, 1)}
	for most := range 20 {
		if most == 1 {
			fails(t, 5, l, hops(most), 0, 2, api.ErrNone)
			continue
		}
		finds(t, 5, l, hops(most), 0, 2, []int{0, 1, 2}, 2)
		answers(t, 5, l, prune.Ask{NoNodes: []int{1}, Hops: most}, 0, 2, []int{0, 3, 2}, 100)
		fails(t, 5, l, hops(most), 3, 3, api.ErrArg)
	}
	// It ends, whatever Hops is, though no link leads out of the loop.
	for _, most := range []int{0, 1, 15, 16, 1 << 32, math.MaxInt} {
		fails(t, 5, l, prune.Ask{NoLinks: [][2]int{{1, 2}, {3, 2}}, Hops: most}, 0, 4, api.ErrNone)
	}
}

func TestHops(t *testing.T) {
	l := chain(16)
	for to := 1; to < 16; to++ {
		route := make([]int, to+1)
		for i := range route {
			route[i] = i
		}
		for most := range 20 {
			if most > 0 && most < to {
				fails(t, 16, l, hops(most), 0, to, api.ErrNone)
			} else {
				finds(t, 16, l, hops(most), 0, to, route, to)
			}
		}
		for _, most := range []int{255, 256, 1 << 32, 1<<32 + 1, math.MaxInt - 1, math.MaxInt} {
			finds(t, 16, l, hops(most), 0, to, route, to)
		}
	}
}

// The greatest cost of a route.
func TestGreatestCost(t *testing.T) {
	l := chain(16)
	var route []int
	for i := range 16 {
		route = append(route, 15-i)
	}
	for i := range l {
		x := &l[i].Link
		x.From, x.To, x.Metric = x.To, x.From, 65535
	}
	finds(t, 16, l, prune.Ask{}, 15, 0, route, 15*65535)
	finds(t, 16, l, hops(15), 15, 0, route, 15*65535)
	fails(t, 16, l, hops(14), 15, 0, api.ErrNone)
}

// Without the first route of each case the other one is left.
func TestConstraints(t *testing.T) {
	l := []tedb.Advert{link(0, 1, 1), link(1, 3, 1), link(0, 2, 9), link(2, 3, 9)}
	l[1].Link.Groups, l[2].Link.Groups, l[3].Link.Groups = 1, 6, 6
	l[1].Free = [8]uint64{10, 9, 8, 7, 6, 5, 4, 3}
	first, other := []int{0, 1, 3}, []int{0, 2, 3}
	for _, a := range []prune.Ask{
		{}, noNodes(2), noNodes(4, -1), noNodes(math.MinInt, 16, math.MaxInt),
		wants(api.Want{Bw: 7, Setup: 3, Hold: 3}), wants(api.Want{Bw: 10}), wants(api.Want{Bw: 3, Setup: 7}), wants(api.Want{None: 6}), wants(api.Want{None: 1 << 31}),
		{NoLinks: [][2]int{{1, 0}, {3, 1}, {0, 3}, {2, 3}}},
		{Want: api.Want{Bw: 8, Setup: 3}, Own: []prune.Own{{From: 1, To: 3, Bw: 1}}}, {Want: api.Want{Bw: 8, Setup: 7}, Own: []prune.Own{{From: 1, To: 3, Bw: most}}},
	} {
		finds(t, 4, l, a, 0, 3, first, 2)
	}
	for _, a := range []prune.Ask{
		noNodes(1), noNodes(9, 1, 1), wants(api.Want{Bw: 8, Setup: 3, Hold: 3}), wants(api.Want{Bw: 10, Setup: 1}), wants(api.Want{Bw: 4, Setup: 7}), wants(api.Want{None: 1}), wants(api.Want{Any: 2}), wants(api.Want{All: 6}), wants(api.Want{Any: 12, All: 2, None: 9}),
		{NoLinks: [][2]int{{0, 1}}}, {NoLinks: [][2]int{{3, 1}, {1, 3}}},
		{Want: api.Want{Bw: 8, Setup: 3}, Own: []prune.Own{{From: 3, To: 1, Bw: 1}, {From: 0, To: 1, Bw: 5}}}, {Want: api.Want{Bw: 9, Setup: 3}, Own: []prune.Own{{From: 1, To: 3, Bw: 1}, {From: 1, To: 3, Bw: 1}}},
	} {
		finds(t, 4, l, a, 0, 3, other, 18)
		a.Hops = 2
		finds(t, 4, l, a, 0, 3, other, 18)
		a.Hops = 1
		fails(t, 4, l, a, 0, 3, api.ErrNone)
	}
	for _, a := range []prune.Ask{
		noNodes(1, 2), noNodes(0), noNodes(3), wants(api.Want{Bw: 11}), wants(api.Want{Bw: most, Setup: 7}), wants(api.Want{Any: 1}), wants(api.Want{All: 8}), wants(api.Want{None: 3}),
		{NoLinks: [][2]int{{0, 1}, {2, 3}}}, {NoNodes: []int{1}, NoLinks: [][2]int{{0, 2}}},
	} {
		fails(t, 4, l, a, 0, 3, api.ErrNone)
	}
}

func TestDown(t *testing.T) {
	l := []tedb.Advert{link(0, 1, 1), link(1, 3, 1), link(0, 2, 2), link(2, 3, 2)}
	for code := range 16 {
		up := func(i int) bool { return code>>i&1 == 1 }
		for i := range l {
			l[i].Up = up(i)
		}
		switch {
		case up(0) && up(1):
			finds(t, 4, l, prune.Ask{}, 0, 3, []int{0, 1, 3}, 2)
		case up(2) && up(3):
			finds(t, 4, l, prune.Ask{}, 0, 3, []int{0, 2, 3}, 4)
		default:
			fails(t, 4, l, prune.Ask{}, 0, 3, api.ErrNone)
		}
	}
}

// Neither how new an advertisement is counts, nor the link's Cap.
func TestIgnored(t *testing.T) {
	l := example()
	for i := range l {
		l[i].Seq, l[i].Link.Cap = []int{-1, 0, math.MinInt, math.MaxInt}[i], []uint64{0, 5, most, 9}[i]
	}
	finds(t, 4, l, wants(api.Want{Bw: 10}), 0, 3, []int{0, 1, 2, 3}, 3)
	finds(t, 4, l, prune.Ask{Want: api.Want{Bw: 10}, Hops: 1}, 0, 3, []int{0, 3}, 5)
}

func TestOfBase(t *testing.T) {
	var links []api.Link
	for _, x := range example() {
		links = append(links, x.Link)
	}
	b := tedb.New(4, links)
	finds(t, 4, b.All(), wants(api.Want{Bw: 10, Setup: 7, Hold: 7}), 0, 3, []int{0, 1, 2, 3}, 3)
	said := tedb.Advert{Link: links[1], Seq: 1, Up: true, Free: [8]uint64{10, 10, 10, 10, 10, 10, 10, 9}}
	if news, e := b.Apply(said); !news || e != api.OK {
		t.Fatalf("Apply: %t, %d", news, e)
	}
	finds(t, 4, b.All(), wants(api.Want{Bw: 10, Setup: 6, Hold: 6}), 0, 3, []int{0, 1, 2, 3}, 3)
	finds(t, 4, b.All(), wants(api.Want{Bw: 10, Setup: 7, Hold: 7}), 0, 3, []int{0, 3}, 5)
	said.Seq, said.Link.Metric = 2, 4
	if news, e := b.Apply(said); !news || e != api.OK {
		t.Fatalf("Apply: %t, %d", news, e)
	}
	finds(t, 4, b.All(), prune.Ask{}, 0, 3, []int{0, 3}, 5)
}

// All the networks of three nodes whose Metrics are up to 3, with each limit.
func TestSmallNetworks(t *testing.T) {
	for code := range 1 << 12 {
		var l []tedb.Advert
		for i, x := range full(3) {
			if x.Link.Metric = code >> (2 * i) & 3; x.Link.Metric > 0 {
				l = append(l, x)
			}
		}
		for most := range 4 {
			routes, costs := byEach(3, l, hops(most), 0)
			each(t, 3, l, hops(most), 0, routes, costs)
		}
	}
}

func TestManyNetworks(t *testing.T) {
	next := mix(1)
	count := [2]int{}
	for range 4000 {
		n := 2 + next(5)
		l, a := random(next, n, []int{1, 2, 3, 6, 65535}[next(5)]), ask(next, n)
		from := next(n)
		routes, costs := byEach(n, l, a, from)
		each(t, n, l, a, from, routes, costs)
		for to := range n {
			count[min(len(routes[to]), 1)]++
		}
	}
	if count[0] < 2000 || count[1] < 4000 {
		t.Errorf("no, yes: %d", count)
	}
}

// The ways of the oracles are not the same, so that one checks the other.
func TestOracles(t *testing.T) {
	next := mix(2)
	for range 2000 {
		n := 2 + next(5)
		l, a := random(next, n, 1+next(4)), ask(next, n)
		from := next(n)
		routes, costs := byEach(n, l, a, from)
		others, sums := byRounds(n, l, a, from)
		if !slices.EqualFunc(routes, others, slices.Equal) || !slices.Equal(costs, sums) {
			t.Fatalf("of %v, %+v from %d: %v, %v or %v, %v", l, a, from, routes, costs, others, sums)
		}
	}
}

func TestManyGreatNetworks(t *testing.T) {
	next := mix(3)
	long := 0
	for range 80 {
		n := 7 + next(10)
		l := random(next, n, []int{1, 2, 3, 6, 20, 65535}[next(6)])
		for i := range l {
			l[i].Up = true
		}
		from := next(n)
		for most := range 17 {
			routes, costs := byRounds(n, l, hops(most), from)
			each(t, n, l, hops(most), from, routes, costs)
			for _, r := range routes {
				long = max(long, len(r))
			}
		}
		a := ask(next, n)
		routes, costs := byRounds(n, l, a, from)
		each(t, n, l, a, from, routes, costs)
	}
	if long < 8 {
		t.Errorf("the longest route has %d nodes", long)
	}
}

// The greatest networks of this kind, in which nearly each limit has a route of its own.
func TestLimits(t *testing.T) {
	next := mix(4)
	limits := 0
	for range 25 {
		l := stretched(next, 16)
		if e := graph.Check(16, linksOf(l)); len(l) != 64 || e != api.OK {
			t.Fatalf("%d links: %d", len(l), e)
		}
		from := next(16)
		before := make([][]int, 16)
		for most := range 17 {
			routes, costs := byRounds(16, l, hops(most), from)
			each(t, 16, l, hops(most), from, routes, costs)
			for to, r := range routes {
				if !slices.Equal(r, before[to]) {
					limits++
				}
			}
			before = routes
		}
	}
	if limits < 1000 {
		t.Errorf("only %d limits that count", limits)
	}
}

// Of routes that all cost the same, from the cheapest link to the dearest one.
func TestManyTies(t *testing.T) {
	next := mix(5)
	for _, metric := range []int{1, 2, 65535} {
		for range 12 {
			l := mixed(next, full(9))[:64]
			for i := range l {
				l[i].Link.Metric = metric
			}
			for most := range 9 {
				routes, costs := byRounds(9, l, hops(most), 4)
				each(t, 9, l, hops(most), 4, routes, costs)
			}
		}
	}
}

// R4: the order of the advertisements is nothing to the route.
func TestOrderOfLinks(t *testing.T) {
	next := mix(6)
	for range 300 {
		n := 2 + next(15)
		l, a := random(next, n, 1+next(4)), ask(next, n)
		from, to := next(n), next(n)
		r, cost, e := Find(n, l, a, from, to)
		for range 4 {
			if other, sum, f := Find(n, mixed(next, l), a, from, to); !slices.Equal(r, other) || cost != sum || e != f {
				t.Fatalf("of %v, %+v from %d to %d: %v, %d, %d and %v, %d, %d", l, a, from, to, r, cost, e, other, sum, f)
			}
		}
	}
}

// Without constraints it is the best route of layer 11.
func TestAsBest(t *testing.T) {
	next := mix(7)
	found := 0
	for range 400 {
		n := 2 + next(15)
		l := random(next, n, 1+next(9))
		for i := range l {
			l[i].Up = true
		}
		from, to := next(n), next(n)
		r, cost, e := spf.Best(n, linksOf(l), from, to)
		if e != api.OK {
			fails(t, n, l, prune.Ask{}, from, to, e)
			continue
		}
		found++
		finds(t, n, l, prune.Ask{}, from, to, r, cost)
		finds(t, n, l, hops(n-1), from, to, r, cost)
		finds(t, n, l, hops(len(r)-1), from, to, r, cost)
	}
	if found < 200 {
		t.Errorf("only %d routes", found)
	}
}

// P17.1: wrong inputs

// unasked are asks that may not be.
func unasked() []prune.Ask {
	var all []prune.Ask
	for _, n := range []int{-1, -2, -8, math.MinInt, math.MinInt + 1} {
		all = append(all, hops(n), wants(api.Want{Setup: n}), wants(api.Want{Setup: 7, Hold: n}), wants(api.Want{Setup: n, Hold: n}))
	}
	for _, n := range []int{8, 9, 255, 256, 1 << 32, math.MaxInt} {
		all = append(all, wants(api.Want{Setup: n}), wants(api.Want{Setup: n, Hold: 7}), wants(api.Want{Setup: n, Hold: n}), wants(api.Want{Setup: 7, Hold: n}))
	}
	for setup := range 8 {
		all = append(all, wants(api.Want{Setup: setup, Hold: setup + 1}))
	}
	return all
}

func TestWrongAsks(t *testing.T) {
	for _, a := range unasked() {
		fails(t, 4, example(), a, 0, 3, api.ErrArg)
		// Ahead of ErrNone.
		fails(t, 4, example(), a, 3, 0, api.ErrArg)
		fails(t, 4, nil, a, 0, 3, api.ErrArg)
		fails(t, 4, example(), a, 4, 3, api.ErrArg)
		fails(t, 0, nil, a, 0, 0, api.ErrArg)
		a.NoNodes = []int{0}
		fails(t, 4, example(), a, 0, 3, api.ErrArg)
	}
	for setup := range 8 {
		for hold := range setup + 1 {
			finds(t, 4, example(), wants(api.Want{Setup: setup, Hold: hold}), 0, 3, []int{0, 1, 2, 3}, 3)
		}
	}
}

func TestWrongNodes(t *testing.T) {
	for _, wrong := range []int{math.MinInt, -4, -1, 4, 5, 16, 1 << 32, math.MaxInt} {
		for node := range 4 {
			for _, l := range [][]tedb.Advert{example(), nil} {
				fails(t, 4, l, prune.Ask{}, wrong, node, api.ErrArg)
				fails(t, 4, l, prune.Ask{}, node, wrong, api.ErrArg)
				fails(t, 4, l, noNodes(node, wrong), node, wrong, api.ErrArg)
				fails(t, 4, l, hops(1), wrong, wrong, api.ErrArg)
				fails(t, 4, l, hops(1), wrong, -2, api.ErrArg)
			}
		}
	}
	for node := range 4 {
		fails(t, 4, example(), prune.Ask{}, node, node, api.ErrArg)
		fails(t, 4, nil, hops(1), node, node, api.ErrArg)
		fails(t, 4, example(), noNodes(node), node, node, api.ErrArg)
	}
	fails(t, 16, nil, prune.Ask{}, 0, 16, api.ErrArg)
	fails(t, 16, nil, prune.Ask{}, 16, 0, api.ErrArg)
	fails(t, 1, nil, prune.Ask{}, 0, 0, api.ErrArg)
	fails(t, 1, nil, prune.Ask{}, 0, 1, api.ErrArg)
	fails(t, 2, nil, prune.Ask{}, 0, 1, api.ErrNone)
	// The last node is one.
	fails(t, 16, nil, prune.Ask{}, 0, 15, api.ErrNone)
	fails(t, 16, nil, prune.Ask{}, 15, 0, api.ErrNone)
	finds(t, 16, []tedb.Advert{link(15, 0, 4)}, prune.Ask{}, 15, 0, []int{15, 0}, 4)
}

func TestWrongNumbers(t *testing.T) {
	for _, n := range []int{math.MinInt, -1, 0, 17, 18, math.MaxInt} {
		for _, node := range []int{-1, 0, 1, n - 1, n} {
			fails(t, n, nil, prune.Ask{}, node, 2, api.ErrArg)
			fails(t, n, example(), prune.Ask{}, node, 3, api.ErrArg)
			fails(t, n, example(), prune.Ask{}, 0, node, api.ErrArg)
		}
	}
	fails(t, 3, example(), prune.Ask{}, 0, 1, api.ErrArg)
	finds(t, 5, example(), prune.Ask{}, 0, 1, []int{0, 1}, 1)
}

// All the links count, those that may not be used, too.
func TestWrongLinks(t *testing.T) {
	for _, x := range []tedb.Advert{link(4, 0, 1), link(0, 4, 1), link(-1, 0, 1), link(0, -1, 1), link(2, 2, 1), link(3, 0, 0), link(3, 0, -1), link(3, 0, 65536), link(0, 1, 1), link(0, 1, 9), link(math.MaxInt, 0, 1), link(3, 0, math.MinInt)} {
		for _, up := range []bool{true, false} {
			x.Up = up
			for at := range 5 {
				l := slices.Insert(example(), at, x)
				fails(t, 4, l, prune.Ask{}, 0, 3, api.ErrArg)
				fails(t, 4, l, prune.Ask{}, 3, 0, api.ErrArg)
				fails(t, 4, l, hops(1), 0, 3, api.ErrArg)
				fails(t, 4, l, noNodes(x.Link.From), 1, 2, api.ErrArg)
				fails(t, 4, l, wants(api.Want{Bw: 11}), 1, 2, api.ErrArg)
				fails(t, 4, l, prune.Ask{NoLinks: [][2]int{{x.Link.From, x.Link.To}}}, 1, 2, api.ErrArg)
			}
		}
	}
}

// ErrBig of Check is ErrArg here, too.
func TestTooManyLinks(t *testing.T) {
	l := full(9)
	if graph.Check(9, linksOf(l[:65])) != api.ErrBig || graph.Check(9, linksOf(l[:64])) != api.OK {
		t.Fatal("Check has another limit")
	}
	finds(t, 9, l[:64], prune.Ask{}, 0, 1, []int{0, 1}, 1)
	for up := range 65 {
		for i := range l {
			l[i].Up = i < up
		}
		fails(t, 9, l[:65], prune.Ask{}, 0, 1, api.ErrArg)
		fails(t, 9, l, prune.Ask{}, 0, 1, api.ErrArg)
	}
}

// P17.2

// satisfies says whether a route satisfies an ask, and what it costs.
func satisfies(l []tedb.Advert, a prune.Ask, r []int) (int, bool) {
	cost, e := graph.Route(prune.Links(l, a), r)
	return cost, e == api.OK && (a.Hops == 0 || len(r) <= a.Hops+1)
}

func TestSatisfies(t *testing.T) {
	next := mix(8)
	found := 0
	for range 8000 {
		n := 2 + next(15)
		l, a := random(next, n, []int{1, 3, 100, 65535}[next(4)]), ask(next, n)
		from, to := next(n), next(n)
		r, cost, e := Find(n, l, a, from, to)
		if from != to && e != api.OK && (e != api.ErrNone || a.Hops == 0 && graph.Reach(n, prune.Links(l, a), from)[to]) {
			t.Fatalf("Find(%d, %v, %+v, %d, %d): %d", n, l, a, from, to, e)
		}
		if e != api.OK {
			continue
		}
		found++
		if c, ok := satisfies(l, a, r); !ok || c != cost || r[0] != from || r[len(r)-1] != to {
			t.Fatalf("Find(%d, %v, %+v, %d, %d) = %v, %d: %d, %t", n, l, a, from, to, r, cost, c, ok)
		}
	}
	if found < 2000 {
		t.Errorf("only %d routes", found)
	}
}

// P17.3

func TestNoneBetter(t *testing.T) {
	next := mix(9)
	worse := 0
	for range 1200 {
		n := 2 + next(5)
		l, a := random(next, n, []int{1, 2, 4, 65535}[next(4)]), ask(next, n)
		from := next(n)
		eachRoute(l, a, []int{from}, 0, func(r []int, cost int) {
			if c, ok := satisfies(l, a, r); !ok || c != cost {
				t.Fatalf("of %v, %+v: %v of %d is no route: %d", l, a, r, cost, c)
			}
			b, c, e := Find(n, l, a, from, r[len(r)-1])
			if e != api.OK || spf.Better(cost, r, c, b) || below(cost, r, c, b) {
				t.Fatalf("of %v, %+v: %v of %d, but Find is %v, %d, %d", l, a, r, cost, b, c, e)
			}
			if spf.Better(c, b, cost, r) {
				worse++
			} else if !slices.Equal(r, b) {
				t.Fatalf("of %v, %+v: neither %v of %d nor %v of %d is better", l, a, r, cost, b, c)
			}
		})
	}
	if worse < 2000 {
		t.Errorf("only %d routes that aren't best", worse)
	}
}

// P17.4

// notDearer asks that a route for a weaker ask costs no more: 1 if it costs less, 2 if it is the only one.
func notDearer(t *testing.T, n int, l []tedb.Advert, weak, strong prune.Ask, from, to int) int {
	t.Helper()
	_, cost, e := Find(n, l, weak, from, to)
	_, more, f := Find(n, l, strong, from, to)
	if f == api.OK && (e != api.OK || cost > more) {
		t.Fatalf("Find(%d, %v, .., %d, %d): %d, %d for %+v, but %d, %d for %+v", n, l, from, to, cost, e, weak, more, f, strong)
	}
	switch {
	case e == api.OK && f != api.OK:
		return 2
	case cost < more:
		return 1
	}
	return 0
}

func TestMoreHops(t *testing.T) {
	next := mix(10)
	count := [3]int{}
	for round := range 1500 {
		n := 2 + next(15)
		l, strong := random(next, n, []int{1, 5, 100, 65535}[next(4)]), ask(next, n)
		if round%2 == 0 {
			l, strong = stretched(next, n), prune.Ask{}
		}
		from, to := next(n), next(n)
		for most := range 16 {
			weak := strong
			strong.Hops, weak.Hops = most+1, most+2
			if most == 15 {
				// None is the weakest limit.
				weak.Hops = 0
			}
			count[notDearer(t, n, l, weak, strong, from, to)]++
		}
	}
	if count[1] < 500 || count[2] < 200 {
		t.Errorf("less, only: %d", count[1:])
	}
}

// more are some elements with others, which may be anywhere among them.
func more[T any](next func(n int) int, some []T, other func() T) []T {
	all := slices.Clone(some)
	for range next(3) {
		all = slices.Insert(all, next(len(all)+1), other())
	}
	return all
}

// harder is an ask of the same Setup that is satisfied by no more routes: mostly by one of its parts.
func harder(next func(n int) int, n int, a prune.Ask) prune.Ask {
	part := next(6)
	if part == 0 || part == 5 {
		w := a.Want
		a.Want = api.Want{Bw: w.Bw + uint64(next(3)), Setup: w.Setup, Hold: next(w.Setup + 1), Any: w.Any & uint32(next(16)), All: w.All | bits(next)&bits(next), None: w.None | bits(next)&bits(next)}
		if w.Any == 0 {
			a.Want.Any = bits(next)
		}
	}
	if part == 1 || part == 5 {
		a.NoNodes = more(next, a.NoNodes, func() int { return next(n) })
	}
	if part == 2 || part == 5 {
		a.NoLinks = more(next, a.NoLinks, func() [2]int { return [2]int{next(n), next(n)} })
	}
	if part == 3 || part == 5 {
		a.Own = slices.DeleteFunc(slices.Clone(a.Own), func(prune.Own) bool { return next(3) == 0 })
	}
	if part == 4 || part == 5 {
		if a.Hops == 0 {
			a.Hops = n
		}
		a.Hops = 1 + next(a.Hops)
	}
	return a
}

func TestWeaker(t *testing.T) {
	next := mix(11)
	count := [3]int{}
	for range 30000 {
		n := 2 + next(15)
		l, weak := random(next, n, []int{1, 5, 100, 65535}[next(4)]), ask(next, n)
		strong := harder(next, n, weak)
		if group.Covers(weak.Want, strong.Want) {
			count[notDearer(t, n, l, weak, strong, next(n), next(n))]++
		}
	}
	if count[0] < 5000 || count[1] < 300 || count[2] < 1000 {
		t.Errorf("the same, less, only: %d", count)
	}
}

// R6

// Lists with spare capacity keep what is behind their ends.
func TestSpareCapacityStays(t *testing.T) {
	l := append(example(), link(1, 3, 1), link(0, 2, 1))
	before := slices.Clone(l)
	a := prune.Ask{NoNodes: []int{5, 1, 2}, NoLinks: [][2]int{{3, 0}, {0, 1}, {0, 3}}, Own: []prune.Own{{From: 2, To: 1, Bw: 4}, {From: 0, To: 1, Bw: 6}}}
	kept := copied(a)
	a.NoNodes, a.NoLinks, a.Own = a.NoNodes[:1], a.NoLinks[:1], a.Own[:1]
	finds(t, 4, l[:4], a, 0, 3, []int{0, 1, 2, 3}, 3)
	a.NoNodes, a.NoLinks, a.Own = a.NoNodes[:3], a.NoLinks[:3], a.Own[:2]
	if !slices.Equal(l, before) || !reflect.DeepEqual(a, kept) {
		t.Errorf("written behind a list: %v, %+v", l, a)
	}
}

// R8
func TestEmptyLists(t *testing.T) {
	empty := prune.Ask{NoNodes: []int{}, NoLinks: [][2]int{}, Own: []prune.Own{}}
	finds(t, 4, example(), empty, 0, 3, []int{0, 1, 2, 3}, 3)
	fails(t, 4, []tedb.Advert{}, empty, 0, 3, api.ErrNone)
	fails(t, 4, nil, empty, 0, 3, api.ErrNone)
}
