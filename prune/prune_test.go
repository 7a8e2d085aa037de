package prune

import (
	"math"
	"math/big"
	"slices"
	"testing"

	"viaduct/api"
	"viaduct/group"
	"viaduct/tedb"
)

const (
	// most is the greatest number of 64 bits.
	most = math.MaxUint64
	// half is the least one whose double is none of them.
	half = 1 << 63
)

// mix answers numbers from 0 to n - 1 without an order to be seen, the same in every run.
func mix(seed uint64) func(n int) int {
	return func(n int) int {
		seed = seed*6364136223846793005 + 1442695040888963407
		return int(((seed ^ seed>>29) >> 8) % uint64(n))
	}
}

// even is a list of what is free: as much for each priority.
func even(u uint64) [8]uint64 {
	return [8]uint64{u, u, u, u, u, u, u, u}
}

// link is one that is up, with as much free for each priority.
func link(from, to int, free uint64) tedb.Advert {
	return tedb.Advert{Link: api.Link{From: from, To: to, Cap: free, Metric: 1}, Up: true, Free: even(free)}
}

// steps is a link with another number free for each priority, and with two groups.
func steps() tedb.Advert {
	return tedb.Advert{Link: api.Link{From: 2, To: 9, Cap: 40, Metric: 7, Groups: 6}, Seq: 3, Up: true, Free: [8]uint64{40, 35, 30, 25, 20, 15, 10, 5}}
}

// asks is what a tunnel asks for a bandwidth at a priority.
func asks(bw uint64, setup int, own ...Own) Ask {
	return Ask{Want: api.Want{Bw: bw, Setup: setup, Hold: setup}, Own: own}
}

// full is an ask of each kind, which steps fits, with nothing to spare.
func full() Ask {
	return Ask{
		Want:    api.Want{Bw: 27, Setup: 3, Hold: 1, Any: 10, All: 4, None: 1},
		NoNodes: []int{8, 0, 3},
		NoLinks: [][2]int{{2, 8}, {9, 2}, {3, 9}},
		Own:     []Own{{9, 2, 50}, {2, 9, 2}, {2, 9, 1}},
	}
}

// member says whether a bit is one of some.
func member(some uint32, bit int) bool {
	return some>>bit%2 == 1
}

// permits says by another way, group by group, whether a link of such groups satisfies a want.
func permits(w api.Want, groups uint32) bool {
	found := w.Any == 0
	for bit := range 32 {
		switch {
		case member(groups, bit) && member(w.None, bit), !member(groups, bit) && member(w.All, bit):
			return false
		case member(groups, bit) && member(w.Any, bit):
			found = true
		}
	}
	return found
}

// room says by another way, with numbers of any size, whether a link has enough bandwidth.
func room(x tedb.Advert, a Ask) bool {
	had := []uint64{0}
	for _, o := range a.Own {
		if o.From == x.Link.From && o.To == x.Link.To {
			had = append(had, o.Bw)
		}
	}
	slices.Sort(had)
	number := func(u uint64) *big.Int { return new(big.Int).SetUint64(u) }
	sum := number(x.Free[a.Want.Setup])
	sum.Add(sum, number(had[len(had)-1]))
	// A sum of more than 64 bits is greater than each Bw.
	return sum.Cmp(number(a.Want.Bw)) >= 0
}

// may is Fits by another way, condition by condition.
func may(x tedb.Advert, a Ask) bool {
	if w := a.Want; w.Setup < 0 || w.Setup > 7 || w.Hold < 0 || w.Hold > 7 || w.Hold > w.Setup {
		return false
	}
	for _, node := range a.NoNodes {
		if node == x.Link.From || node == x.Link.To {
			return false
		}
	}
	for _, l := range a.NoLinks {
		if l[0] == x.Link.From && l[1] == x.Link.To {
			return false
		}
	}
	return x.Up && permits(a.Want, x.Link.Groups) && room(x, a)
}

// fits asks for an answer of Fits, whatever Hops is, and for the same of Links.
func fits(t *testing.T, x tedb.Advert, a Ask, want bool) {
	t.Helper()
	var l []api.Link
	if want {
		l = []api.Link{x.Link}
	}
	for _, hops := range []int{a.Hops, 0, 1, 16, -1, math.MinInt, math.MaxInt} {
		a.Hops = hops
		if Fits(x, a) != want {
			t.Fatalf("Fits(%+v, %+v) isn't %t", x, a, want)
		}
		if got := Links([]tedb.Advert{x}, a); !slices.Equal(got, l) {
			t.Fatalf("Links of %+v for %+v = %v", x, a, got)
		}
	}
}

// changed is full with one thing changed.
func changed(change func(a *Ask)) Ask {
	a := full()
	change(&a)
	return a
}

// odds are numbers that are no node, some of them with the last bits of the ends of steps.
func odds() []int {
	return []int{-1, -2, -9, 16, 255, 256, 258, 1<<32 + 2, 1<<32 + 9, math.MaxInt, math.MinInt, math.MinInt + 2, math.MinInt + 9}
}

// bits are of any of the 32 groups, mostly few.
func bits(n func(int) int) uint32 {
	switch n(4) {
	case 0:
		return 1 << n(32)
	case 1:
		return uint32(n(1<<32)) & uint32(n(1<<32)) & uint32(n(1<<32))
	}
	return 0
}

// amount is a bandwidth, small or near to the greatest one.
func amount(n func(int) int) uint64 {
	switch n(6) {
	case 0:
		return most - uint64(n(4))
	case 1:
		return half - 2 + uint64(n(4))
	}
	return uint64(n(8))
}

// advert is one of a link between few nodes, valid or not.
func advert(n func(int) int) tedb.Advert {
	x := tedb.Advert{Link: api.Link{From: n(4), To: n(4), Cap: amount(n), Metric: n(9), Groups: uint32(n(1 << 32))}, Seq: n(9), Up: n(8) > 0}
	for p := range x.Free {
		x.Free[p] = amount(n)
	}
	return x
}

// want is mostly a valid one.
func want(n func(int) int) api.Want {
	setup := n(8)
	w := api.Want{Bw: amount(n), Setup: setup, Hold: n(setup + 1), Any: bits(n) | bits(n), All: bits(n) & bits(n), None: bits(n) & bits(n)}
	switch n(20) {
	case 0:
		w.Setup = n(12) - 2
	case 1:
		w.Hold = n(12) - 2
	}
	return w
}

// ask is one that excludes few links.
func ask(n func(int) int) Ask {
	a := Ask{Want: want(n), Hops: n(5) - 2}
	for range n(3) {
		a.NoNodes = append(a.NoNodes, n(12)-2)
	}
	for range n(4) {
		a.NoLinks = append(a.NoLinks, [2]int{n(5), n(5)})
	}
	for range n(5) {
		a.Own = append(a.Own, Own{n(4), n(4), amount(n)})
	}
	return a
}

// P16.1

func TestFitsExample(t *testing.T) {
	x := tedb.Advert{Link: api.Link{From: 0, To: 1, Cap: 10, Metric: 1}, Up: true, Free: [8]uint64{10, 10, 10, 4, 4, 4, 4, 4}}
	fits(t, x, asks(5, 3), false)
	fits(t, x, asks(5, 2), true)
	fits(t, x, asks(5, 3, Own{0, 1, 1}), true)
	a := asks(5, 2)
	a.NoNodes = []int{1}
	fits(t, x, a, false)
	fits(t, x, Ask{}, true)
	fits(t, tedb.Advert{}, Ask{}, false)
	fits(t, tedb.Advert{Up: true}, Ask{}, true)
}

func TestFitsWant(t *testing.T) {
	numbers := []int{-8, -2, -1, 0, 1, 2, 3, 4, 5, 6, 7, 8, 9, 15, 16, 1 << 32, 1<<32 + 3, math.MaxInt, math.MinInt, math.MinInt + 3}
	for _, setup := range numbers {
		for _, hold := range numbers {
			valid := hold >= 0 && hold <= setup && setup <= 7
			fits(t, link(0, 1, most), Ask{Want: api.Want{Setup: setup, Hold: hold}}, valid)
			fits(t, link(0, 1, most), Ask{Want: api.Want{Bw: most, Setup: setup, Hold: hold}, Own: []Own{{0, 1, most}}}, valid)
		}
	}
}

// Each condition is asked for, as the others hold.
func TestFitsEach(t *testing.T) {
	fits(t, steps(), full(), true)
	down := steps()
	down.Up = false
	fits(t, down, full(), false)
	for _, change := range []func(a *Ask){
		func(a *Ask) { a.Want.Setup = -1 },
		func(a *Ask) { a.Want.Setup = 8 },
		func(a *Ask) { a.Want.Hold = -1 },
		func(a *Ask) { a.Want.Hold = 4 },
		func(a *Ask) { a.Want.Any = 9 },
		func(a *Ask) { a.Want.All = 12 },
		func(a *Ask) { a.Want.None = 2 },
		func(a *Ask) { a.NoNodes[0] = 2 },
		func(a *Ask) { a.NoNodes[2] = 9 },
		func(a *Ask) { a.NoLinks[0][1] = 9 },
		func(a *Ask) { a.NoLinks[2][0] = 2 },
		func(a *Ask) { a.Want.Bw++ },
		func(a *Ask) { a.Own[1].Bw-- },
		func(a *Ask) { a.Own[1].From = 3 },
		func(a *Ask) { a.Own[1].To = 8 },
		func(a *Ask) { a.Own = nil },
		func(a *Ask) { a.Want.Setup = 4 },
	} {
		fits(t, steps(), changed(change), false)
	}
}

func TestFitsDown(t *testing.T) {
	down := link(0, 1, most)
	down.Up = false
	for setup := range 8 {
		fits(t, down, asks(0, setup), false)
		fits(t, down, asks(most, setup, Own{0, 1, most}), false)
	}
}

func TestFitsGroups(t *testing.T) {
	x := link(0, 1, 10)
	for code := range 1 << 12 {
		// Three groups, the last of them the greatest bit.
		part := func(at int) uint32 { b := uint32(code >> at & 7); return b&3 | b>>2<<31 }
		x.Link.Groups = part(0)
		a := asks(10, 7)
		a.Want.Any, a.Want.All, a.Want.None = part(3), part(6), part(9)
		fits(t, x, a, permits(a.Want, x.Link.Groups))
	}
}

func TestFitsNoNodes(t *testing.T) {
	for node := range 16 {
		fits(t, steps(), Ask{NoNodes: []int{node}}, node != 2 && node != 9)
		fits(t, steps(), changed(func(a *Ask) { a.NoNodes = []int{node} }), node != 2 && node != 9)
	}
	others := append(odds(), 0, 1, 3, 8, 10, 3, 0)
	fits(t, steps(), Ask{NoNodes: others}, true)
	for at := range len(others) + 1 {
		for _, node := range []int{2, 9} {
			fits(t, steps(), Ask{NoNodes: slices.Insert(slices.Clone(others), at, node)}, false)
		}
	}
	// No limit is on the length of the list.
	many := slices.Repeat(others, 100)
	fits(t, steps(), Ask{NoNodes: many}, true)
	fits(t, steps(), Ask{NoNodes: append(slices.Clone(many), 2)}, false)
	fits(t, steps(), Ask{NoNodes: append(slices.Clone(many), 9)}, false)
	fits(t, steps(), Ask{NoNodes: []int{2, 9}}, false)
	fits(t, steps(), Ask{NoNodes: []int{}}, true)
	fits(t, link(-1, 16, 5), Ask{NoNodes: []int{-1}}, false)
	fits(t, link(-1, 16, 5), Ask{NoNodes: []int{16}}, false)
}

// A link is excluded in one direction, and by both of its ends.
func TestFitsNoLinks(t *testing.T) {
	var others [][2]int
	for from := range 16 {
		for to := range 16 {
			one := [2]int{from, to}
			fits(t, steps(), Ask{NoLinks: [][2]int{one}}, one != [2]int{2, 9})
			if one != [2]int{2, 9} {
				others = append(others, one)
			}
		}
	}
	for _, n := range odds() {
		others = append(others, [2]int{n, 9}, [2]int{2, n}, [2]int{n, n})
	}
	fits(t, steps(), Ask{NoLinks: others}, true)
	for at := 0; at <= len(others); at += 19 {
		fits(t, steps(), Ask{NoLinks: slices.Insert(slices.Clone(others), at, [2]int{2, 9})}, false)
	}
	fits(t, steps(), Ask{NoLinks: append(others, [2]int{2, 9})}, false)
	fits(t, steps(), Ask{NoLinks: [][2]int{}}, true)
	fits(t, link(-1, 16, 5), Ask{NoLinks: [][2]int{{-1, 16}}}, false)
	fits(t, link(-1, 16, 5), Ask{NoLinks: [][2]int{{16, -1}}}, true)
}

// What counts is free at Setup, not at Hold.
func TestFitsBandwidth(t *testing.T) {
	for setup := range 8 {
		for hold := range setup + 1 {
			for bw := range uint64(50) {
				a := Ask{Want: api.Want{Bw: bw, Setup: setup, Hold: hold}}
				fits(t, steps(), a, bw <= uint64(40-5*setup))
				a.Own = []Own{{2, 9, 3}}
				fits(t, steps(), a, bw <= uint64(43-5*setup))
			}
		}
	}
	fits(t, link(0, 1, 0), asks(0, 0), true)
	fits(t, link(0, 1, 0), asks(1, 0), false)
	fits(t, link(0, 1, 0), asks(most, 7), false)
	for _, u := range []uint64{255, 256, 1 << 31, 1 << 32, 1<<32 + 5, half - 1, half, half + 1, most - 1} {
		fits(t, link(0, 1, u), asks(u-1, 4), true)
		fits(t, link(0, 1, u), asks(u, 4), true)
		fits(t, link(0, 1, u), asks(u+1, 4), false)
		fits(t, link(0, 1, u), asks(most, 4), false)
	}
}

// The greatest Bw of the link counts, wherever it is, and neither the sum nor what other links have.
func TestFitsOwn(t *testing.T) {
	for _, bws := range [][]uint64{{6}, {6, 1, 4}, {4, 6, 1}, {1, 4, 6}, {6, 6}, {0, 6, 0}, {6, 5, 5, 5, 5, 5}} {
		var own []Own
		for _, bw := range bws {
			own = append(own, Own{9, 2, 30}, Own{2, 8, 31}, Own{3, 9, 32}, Own{2, 9, bw}, Own{2, 2, 33}, Own{9, 9, 34})
		}
		fits(t, steps(), asks(26, 4, own...), true)
		fits(t, steps(), asks(27, 4, own...), false)
		// The bandwidth that the tunnel has is beyond what is free for others, and beyond the link's Cap.
		full := steps()
		full.Link.Cap, full.Free = 5, [8]uint64{}
		fits(t, full, asks(6, 7, own...), true)
		fits(t, full, asks(7, 7, own...), false)
	}
	many := slices.Repeat([]Own{{9, 2, 30}, {2, 9, 4}, {3, 3, 31}}, 500)
	fits(t, steps(), asks(24, 4, many...), true)
	fits(t, steps(), asks(25, 4, many...), false)
	fits(t, steps(), asks(25, 4, append(many, Own{2, 9, 5})...), true)
	for _, n := range odds() {
		fits(t, steps(), asks(21, 4, Own{n, 9, 50}, Own{2, n, 50}, Own{n, n, 50}), false)
	}
	fits(t, steps(), asks(21, 4, Own{2, 9, 0}), false)
	fits(t, steps(), asks(20, 4, []Own{}...), true)
	fits(t, link(-1, 16, 5), asks(8, 4, Own{-1, 16, 3}), true)
	fits(t, link(-1, 16, 5), asks(9, 4, Own{-1, 16, 3}), false)
}

func TestFitsBeyond64Bits(t *testing.T) {
	for _, x := range []struct {
		free, own, bw uint64
		want          bool
	}{
		{most, 0, most, true}, {0, most, most, true}, {most - 1, 0, most, false}, {0, most - 1, most, false},
		{most - 1, 1, most, true}, {1, most - 1, most, true}, {most - 2, 1, most, false}, {most - 2, 1, most - 1, true},
		{most, 1, most, true}, {most, 1, 1, true}, {most, 1, 0, true}, {1, most, 1, true}, {1, most, most, true},
		{most, most, most, true}, {most, most, 0, true}, {half, half, 1, true}, {half, half, most, true}, {half, half - 1, most, true},
		{half - 1, half - 1, most - 1, true}, {half - 1, half - 1, most, false}, {most - 5, 8, 9, true}, {most - 5, 8, most, true},
	} {
		for setup := range 8 {
			fits(t, link(0, 1, x.free), asks(x.bw, setup, Own{0, 1, x.own}), x.want)
			// With other elements of Own the sum of all of them would wrap round, too.
			fits(t, link(0, 1, x.free), asks(x.bw, setup, Own{0, 1, x.own}, Own{0, 1, x.own}, Own{1, 0, most}), x.want)
		}
	}
	// The other conditions stay.
	a := asks(1, 3, Own{0, 1, most})
	fits(t, link(0, 1, most), a, true)
	a.NoNodes = []int{0}
	fits(t, link(0, 1, most), a, false)
	a.NoNodes, a.NoLinks = nil, [][2]int{{0, 1}}
	fits(t, link(0, 1, most), a, false)
	a.NoLinks, a.Want.All = nil, 1
	fits(t, link(0, 1, most), a, false)
}

// Nothing else of an advertisement counts, not even whether it is valid.
func TestFitsIgnores(t *testing.T) {
	for _, change := range []func(x *tedb.Advert){
		func(x *tedb.Advert) { x.Seq = 0 },
		func(x *tedb.Advert) { x.Seq = -1 },
		func(x *tedb.Advert) { x.Seq = math.MaxInt },
		func(x *tedb.Advert) { x.Link.Metric = 0 },
		func(x *tedb.Advert) { x.Link.Metric = math.MaxInt },
		func(x *tedb.Advert) { x.Link.Cap = 0 },
		func(x *tedb.Advert) { x.Link.Cap = most },
		func(x *tedb.Advert) { x.Free = [8]uint64{3: 25} },
		func(x *tedb.Advert) { x.Free = [8]uint64{0, 1, 2, 25, most, most, most, most} },
	} {
		x := steps()
		change(&x)
		fits(t, x, full(), true)
		fits(t, x, changed(func(a *Ask) { a.Want.Bw++ }), false)
	}
	fits(t, link(3, 3, 5), asks(5, 0), true)
	fits(t, link(3, 3, 5), asks(6, 0), false)
	fits(t, link(3, 3, 5), asks(6, 0, Own{3, 3, 1}), true)
}

func TestFitsRandom(t *testing.T) {
	n := mix(1)
	count := [2]int{}
	for range 60000 {
		x, a := advert(n), ask(n)
		ok := may(x, a)
		fits(t, x, a, ok)
		if ok {
			count[1]++
		} else {
			count[0]++
		}
	}
	if count[0] < 10000 || count[1] < 3000 {
		t.Errorf("no, yes: %d", count)
	}
}

// P16.2

// links asks for the links of the advertisements with these indices, whatever Hops is.
func links(t *testing.T, l []tedb.Advert, a Ask, indices ...int) {
	t.Helper()
	var want []api.Link
	for _, i := range indices {
		want = append(want, l[i].Link)
	}
	for _, hops := range []int{a.Hops, 0, 1, 2, -1, math.MinInt, math.MaxInt} {
		a.Hops = hops
		if got := Links(l, a); !slices.Equal(got, want) {
			t.Fatalf("Links(%v, %+v) = %v, not %v", l, a, got, want)
		}
	}
}

func TestLinks(t *testing.T) {
	l := []tedb.Advert{link(3, 1, 9), link(0, 1, 5), link(1, 0, 5), steps(), link(1, 2, 7), link(0, 2, 4), link(2, 0, 5)}
	l[6].Up = false
	links(t, l, Ask{}, 0, 1, 2, 3, 4, 5)
	links(t, l, asks(5, 7), 0, 1, 2, 3, 4)
	links(t, l, asks(6, 7), 0, 4)
	links(t, l, asks(6, 7, Own{1, 0, 1}, Own{0, 2, 2}, Own{2, 0, 9}), 0, 2, 4, 5)
	links(t, l, Ask{NoNodes: []int{1}}, 3, 5)
	links(t, l, Ask{NoNodes: []int{2, 3}}, 1, 2)
	links(t, l, Ask{NoLinks: [][2]int{{1, 2}, {1, 0}, {9, 2}}}, 0, 1, 3, 5)
	links(t, l, Ask{Want: api.Want{Any: 2}}, 3)
	links(t, l, Ask{Want: api.Want{None: 2}}, 0, 1, 2, 4, 5)
	links(t, l, Ask{Want: api.Want{Bw: 10, Setup: 7}})
	links(t, l, Ask{Want: api.Want{Setup: 8}})
	links(t, l, Ask{Want: api.Want{Setup: -1}})
	links(t, l, Ask{Want: api.Want{Setup: 3, Hold: 4}})
	links(t, nil, Ask{})
	links(t, []tedb.Advert{}, full())
	slices.Reverse(l)
	links(t, l, asks(5, 7), 2, 3, 4, 5, 6)
}

// The same link occurs as often as it fits, each time as that advertisement says.
func TestLinksRepeated(t *testing.T) {
	l := []tedb.Advert{link(0, 1, 5), link(0, 1, 5), link(1, 2, 5), link(0, 1, 4), link(0, 1, 9), link(0, 1, 5)}
	l[5].Up = false
	links(t, l, asks(5, 2), 0, 1, 2, 4)
	var many []tedb.Advert
	var indices []int
	for i := range 2000 {
		many = append(many, link(i%5, i%7, uint64(i%3)))
		many[i].Link.Metric = i
		if i%3 > 0 && i%5 != 4 && i%7 != 4 {
			indices = append(indices, i)
		}
	}
	links(t, many, Ask{Want: api.Want{Bw: 1}, NoNodes: []int{4}}, indices...)
}

func TestLinksOfBase(t *testing.T) {
	l := []api.Link{{From: 0, To: 1, Cap: 10, Metric: 3, Groups: 1}, {From: 1, To: 2, Cap: 20, Metric: 4, Groups: 2}, {From: 2, To: 0, Cap: 30, Metric: 5, Groups: 4}}
	b := tedb.New(3, l)
	if got := Links(b.All(), asks(10, 0)); !slices.Equal(got, l) {
		t.Errorf("Links of a new database: %v", got)
	}
	changed := tedb.Advert{Link: api.Link{From: 1, To: 2, Cap: 21, Metric: 9}, Seq: 1, Up: true, Free: [8]uint64{21, 9}}
	if news, e := b.Apply(changed); !news || e != api.OK {
		t.Fatalf("Apply: %t, %d", news, e)
	}
	if got := Links(b.All(), asks(10, 0)); !slices.Equal(got, []api.Link{l[0], changed.Link, l[2]}) {
		t.Errorf("Links with another advertisement: %v", got)
	}
	if got := Links(b.All(), asks(10, 1)); !slices.Equal(got, []api.Link{l[0], l[2]}) {
		t.Errorf("Links at a lower priority: %v", got)
	}
}

func TestLinksRandom(t *testing.T) {
	n := mix(2)
	for range 3000 {
		var l []tedb.Advert
		var indices []int
		a := ask(n)
		for i := range n(12) {
			l = append(l, advert(n))
			if may(l[i], a) {
				indices = append(indices, i)
			}
		}
		links(t, l, a, indices...)
	}
}

// P16.3

// more are some elements with others, which may be anywhere among them.
func more[T any](n func(int) int, some []T, other func() T) []T {
	all := slices.Clone(some)
	for range n(3) {
		all = slices.Insert(all, n(len(all)+1), other())
	}
	return all
}

// fewer are some of these elements.
func fewer(n func(int) int, all []Own) []Own {
	return slices.DeleteFunc(slices.Clone(all), func(Own) bool { return n(3) == 0 })
}

// harder is an ask that permits no more than another one: mostly by one of its parts.
func harder(n func(int) int, a Ask) Ask {
	part := n(5)
	if part == 0 || part == 4 {
		w := a.Want
		a.Want = api.Want{Bw: w.Bw, Setup: w.Setup, Hold: n(w.Setup + 1), Any: w.Any & (bits(n) | 1<<n(32)), All: w.All | bits(n)&bits(n), None: w.None | bits(n)&bits(n)}
		if w.Any == 0 {
			a.Want.Any = bits(n)
		}
		if more := uint64(n(3)); w.Bw <= most-more {
			a.Want.Bw += more
		}
	}
	if part == 1 || part == 4 {
		a.NoNodes = more(n, a.NoNodes, func() int { return n(12) - 2 })
	}
	if part == 2 || part == 4 {
		a.NoLinks = more(n, a.NoLinks, func() [2]int { return [2]int{n(5), n(5)} })
	}
	if part == 3 || part == 4 {
		a.Own = fewer(n, a.Own)
	}
	a.Hops = n(9)
	return a
}

// A weaker Want that is not valid itself permits nothing, so that these are left out.
func TestStronger(t *testing.T) {
	n := mix(3)
	// How often both permit a link, and how often the weaker one alone.
	both, one := 0, 0
	for range 150000 {
		x, weak := advert(n), ask(n)
		if !group.Right(weak.Want) {
			continue
		}
		strong := harder(n, weak)
		if !group.Covers(weak.Want, strong.Want) {
			continue
		}
		before, after := Fits(x, weak), Fits(x, strong)
		if after && !before {
			t.Fatalf("%+v fits %+v, but not %+v", x, strong, weak)
		}
		if before && after {
			both++
		} else if before {
			one++
		}
	}
	if both < 5000 || one < 500 {
		t.Errorf("only %d and %d of them", both, one)
	}
}

// Of any two wants of the same Setup, whether made from each other or not.
func TestStrongerOfAny(t *testing.T) {
	var all []api.Want
	for code := range 1 << 6 {
		part := func(at int) uint32 { return uint32(code >> at & 3) }
		for bw := range uint64(3) {
			all = append(all, api.Want{Bw: bw + 4, Setup: 5, Hold: code % 6, Any: part(0), All: part(2), None: part(4)})
		}
	}
	x := link(0, 1, 5)
	for groups := range uint32(4) {
		x.Link.Groups = groups
		for _, weak := range all {
			if Fits(x, Ask{Want: weak}) {
				continue
			}
			for _, strong := range all {
				if group.Covers(weak, strong) && Fits(x, Ask{Want: strong}) {
					t.Fatalf("%+v fits %+v, but not %+v", x, strong, weak)
				}
			}
		}
	}
}

func TestStrongerOfLists(t *testing.T) {
	n := mix(4)
	for range 5000 {
		var l []tedb.Advert
		for range n(12) {
			l = append(l, advert(n))
		}
		weak := ask(n)
		if !group.Right(weak.Want) {
			continue
		}
		strong := harder(n, weak)
		if group.Covers(weak.Want, strong.Want) {
			partly(t, Links(l, strong), Links(l, weak))
		}
	}
}

// P16.4

// partly asks for elements of a list, in their order, each at most as often as it occurs.
func partly(t *testing.T, some, all []api.Link) {
	t.Helper()
	left := all
	for _, x := range some {
		i := slices.Index(left, x)
		if i < 0 {
			t.Fatalf("%v are not some of %v", some, all)
		}
		left = left[i+1:]
	}
}

func TestParts(t *testing.T) {
	n := mix(5)
	count := 0
	for range 5000 {
		var l []tedb.Advert
		var all []api.Link
		for range n(20) {
			x := advert(n)
			if len(l) > 0 && n(3) == 0 {
				x = l[n(len(l))]
			}
			l, all = append(l, x), append(all, x.Link)
		}
		some := Links(l, ask(n))
		partly(t, some, all)
		count += len(some)
	}
	if count < 5000 {
		t.Errorf("only %d links", count)
	}
}

// R6

func TestArgumentsStay(t *testing.T) {
	l := []tedb.Advert{link(0, 1, 5), steps(), link(1, 2, 1), link(4, 5, 30)}
	before := slices.Clone(l)
	a := full()
	a.Want = api.Want{Bw: 5}
	got := Links(l[:3], a)
	again := Links(l[:3], a)
	if !slices.Equal(l, before) {
		t.Errorf("Links changed the advertisements to %v", l)
	}
	if b := full(); !slices.Equal(a.NoNodes, b.NoNodes) || !slices.Equal(a.NoLinks, b.NoLinks) || !slices.Equal(a.Own, b.Own) {
		t.Errorf("Links changed the ask to %+v", a)
	}
	clear(got)
	_ = append(got[:1], api.Link{From: 7})
	if !slices.Equal(l, before) || !slices.Equal(again, []api.Link{steps().Link}) {
		t.Errorf("a result of Links shares memory: %v, %v", again, l)
	}
}

// Lists with spare capacity keep what is behind their ends.
func TestSpareCapacityStays(t *testing.T) {
	a := full()
	nodes, ends, own := slices.Clone(a.NoNodes), slices.Clone(a.NoLinks), slices.Clone(a.Own)
	a.NoNodes, a.NoLinks, a.Own = a.NoNodes[:1], a.NoLinks[:1], a.Own[:1]
	Links([]tedb.Advert{steps(), link(0, 1, 5), link(1, 2, 50)}, a)
	Fits(steps(), a)
	if !slices.Equal(a.NoNodes[:3], nodes) || !slices.Equal(a.NoLinks[:3], ends) || !slices.Equal(a.Own[:3], own) {
		t.Errorf("written behind a list: %v, %v, %v", a.NoNodes[:3], a.NoLinks[:3], a.Own[:3])
	}
}
