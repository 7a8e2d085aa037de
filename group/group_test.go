package group

import (
	"math"
	"testing"

	"viaduct/api"
)

// top is the bit of the last group.
const top = 1 << 31

// mix answers numbers without an order to be seen, the same in every run.
func mix(seed uint64) func(n int) int {
	return func(n int) int {
		seed = seed*6364136223846793005 + 1442695040888963407
		return int(((seed ^ seed>>29) >> 8) % uint64(n))
	}
}

// few are all the combinations of three bits, among them the first one and the last one.
func few() []uint32 {
	var all []uint32
	for code := range uint32(8) {
		all = append(all, code&1|code>>1&1<<15|code>>2&1<<31)
	}
	return all
}

// each are the wants whose groups are made of these bits, in every combination.
func each(bits []uint32) []api.Want {
	var all []api.Want
	for _, one := range bits {
		for _, every := range bits {
			for _, none := range bits {
				all = append(all, api.Want{Any: one, All: every, None: none})
			}
		}
	}
	return all
}

// bits are of any of the 32 groups, few or many.
func bits(next func(n int) int) uint32 {
	one, two := uint32(next(1<<32)), uint32(next(1<<32))
	switch next(6) {
	case 0:
		return 0
	case 1:
		return 1 << next(32)
	case 2:
		return one & two & uint32(next(1<<32))
	case 3:
		return one & two
	case 4:
		return one | two
	}
	return one
}

// random is a want of any numbers, valid or not.
func random(next func(n int) int) api.Want {
	return api.Want{Bw: uint64(next(4)), Setup: next(11) - 2, Hold: next(11) - 2, Any: bits(next), All: bits(next), None: bits(next)}
}

// plus adds to some bits others, at times.
func plus(next func(n int) int, some uint32) uint32 {
	if next(2) == 0 {
		return some
	}
	return some | bits(next)
}

// harder is a want that mostly asks more than another one.
func harder(next func(n int) int, w api.Want) api.Want {
	w.Bw, w.All, w.None = w.Bw+uint64(next(3)), plus(next, w.All), plus(next, w.None)
	switch {
	case w.Any == 0:
		w.Any = bits(next)
	case next(8) > 0:
		w.Any &= plus(next, bits(next)|1<<next(32))
	}
	w.Setup, w.Hold = next(11)-2, next(11)-2
	return w
}

// member says whether a bit is one of some.
func member(some uint32, bit int) bool {
	return some>>bit%2 == 1
}

// allowed is Allows by another way: group by group.
func allowed(w api.Want, groups uint32) bool {
	found := w.Any == 0
	for bit := range 32 {
		if member(groups, bit) {
			if member(w.None, bit) {
				return false
			}
			found = found || member(w.Any, bit)
		} else if member(w.All, bit) {
			return false
		}
	}
	return found
}

// covered is Covers by another way: group by group.
func covered(a, b api.Want) bool {
	if b.Bw < a.Bw || a.Any != 0 && b.Any == 0 {
		return false
	}
	for bit := range 32 {
		if member(a.All, bit) && !member(b.All, bit) || member(a.None, bit) && !member(b.None, bit) {
			return false
		}
		if a.Any != 0 && member(b.Any, bit) && !member(a.Any, bit) {
			return false
		}
	}
	return true
}

func allows(t *testing.T, w api.Want, groups uint32, want bool) {
	t.Helper()
	if Allows(w, groups) != want {
		t.Fatalf("Allows(%+v, %#x) isn't %v", w, groups, want)
	}
}

// right asks whether a want is valid, whatever its other numbers are.
func right(t *testing.T, setup, hold int, want bool) {
	t.Helper()
	for _, w := range []api.Want{{}, {Bw: math.MaxUint64}, {Any: 6, All: 2, None: 2}, {Bw: 1, Any: math.MaxUint32, All: math.MaxUint32, None: math.MaxUint32}} {
		w.Setup, w.Hold = setup, hold
		if Right(w) != want {
			t.Fatalf("Right(%+v) isn't %v", w, want)
		}
	}
}

func covers(t *testing.T, a, b api.Want, want bool) {
	t.Helper()
	if Covers(a, b) != want {
		t.Fatalf("Covers(%+v, %+v) isn't %v", a, b, want)
	}
}

// P12.1

func TestAllows(t *testing.T) {
	for _, c := range []struct {
		w      api.Want
		groups uint32
		want   bool
	}{
		{api.Want{All: 2, None: 4}, 3, true}, {api.Want{All: 2, None: 4}, 1, false}, {api.Want{All: 2, None: 4}, 7, false}, {api.Want{Any: 6}, 1, false}, {api.Want{Any: 6}, 2, true},
		// Nothing is asked.
		{api.Want{}, 0, true}, {api.Want{}, 1, true}, {api.Want{}, math.MaxUint32, true},
		// One of Any is enough, each of All is needed, and one of None is too much.
		{api.Want{Any: 6}, 0, false}, {api.Want{Any: 6}, 4, true}, {api.Want{Any: 6}, 6, true}, {api.Want{Any: 6}, 9, false}, {api.Want{Any: 6}, 15, true},
		{api.Want{All: 6}, 0, false}, {api.Want{All: 6}, 2, false}, {api.Want{All: 6}, 4, false}, {api.Want{All: 6}, 6, true}, {api.Want{All: 6}, 9, false}, {api.Want{All: 6}, 15, true},
		{api.Want{None: 6}, 0, true}, {api.Want{None: 6}, 2, false}, {api.Want{None: 6}, 4, false}, {api.Want{None: 6}, 6, false}, {api.Want{None: 6}, 9, true}, {api.Want{None: 6}, 15, false},
		// What one of them allows, another one may not.
		{api.Want{Any: 1, All: 2}, 1, false}, {api.Want{Any: 1, All: 2}, 2, false}, {api.Want{Any: 1, All: 2}, 3, true},
		{api.Want{Any: 3, None: 2}, 1, true}, {api.Want{Any: 3, None: 2}, 2, false}, {api.Want{Any: 3, None: 2}, 3, false}, {api.Want{Any: 3, None: 2}, 0, false},
		// Nothing is allowed by what contradicts itself.
		{api.Want{All: 2, None: 2}, 0, false}, {api.Want{All: 2, None: 2}, 2, false}, {api.Want{Any: 2, None: 2}, 0, false}, {api.Want{Any: 2, None: 2}, 2, false},
		// The last group is one like the others.
		{api.Want{Any: top}, top, true}, {api.Want{Any: top}, top - 1, false}, {api.Want{All: top}, top, true}, {api.Want{All: top}, top - 1, false}, {api.Want{None: top}, top, false}, {api.Want{None: top}, top - 1, true},
		{api.Want{Any: math.MaxUint32}, top, true}, {api.Want{Any: math.MaxUint32}, 0, false}, {api.Want{All: math.MaxUint32}, math.MaxUint32, true}, {api.Want{All: math.MaxUint32}, math.MaxUint32 - 1, false}, {api.Want{None: math.MaxUint32}, 0, true}, {api.Want{None: math.MaxUint32}, 1, false},
	} {
		allows(t, c.w, c.groups, c.want)
	}
}

func TestAllowsEachGroup(t *testing.T) {
	for bit := range 32 {
		one, others := uint32(1)<<bit, ^(uint32(1) << bit)
		allows(t, api.Want{Any: one}, one, true)
		allows(t, api.Want{Any: one}, others, false)
		allows(t, api.Want{All: one}, one, true)
		allows(t, api.Want{All: one}, others, false)
		allows(t, api.Want{None: one}, one, false)
		allows(t, api.Want{None: one}, others, true)
		allows(t, api.Want{Any: others}, one, false)
		allows(t, api.Want{All: others}, others, true)
		allows(t, api.Want{None: others}, one, true)
		allows(t, api.Want{Any: one, All: one, None: others}, one, true)
	}
}

func TestAllowsEachWant(t *testing.T) {
	for _, w := range each(few()) {
		for _, groups := range few() {
			allows(t, w, groups, allowed(w, groups))
		}
	}
}

func TestAllowsMany(t *testing.T) {
	next := mix(1)
	yes := 0
	for range 100000 {
		w, groups := random(next), bits(next)
		want := allowed(w, groups)
		allows(t, w, groups, want)
		if want {
			yes++
		}
	}
	if yes < 5000 || yes > 95000 {
		t.Errorf("%d allowed", yes)
	}
}

// Only its groups say where a path may go, even if the rest isn't valid.
func TestAllowsAnyNumbers(t *testing.T) {
	for _, w := range []api.Want{{Bw: math.MaxUint64}, {Setup: 3, Hold: 5}, {Setup: 8}, {Hold: -1}, {Setup: math.MinInt, Hold: math.MaxInt}} {
		allows(t, w, 0, true)
		w.All = 2
		allows(t, w, 3, true)
		allows(t, w, 1, false)
	}
}

// P12.2

func TestRight(t *testing.T) {
	right(t, 3, 5, false)
	right(t, 5, 3, true)
	for setup := -3; setup <= 10; setup++ {
		for hold := -3; hold <= 10; hold++ {
			want := false
			for s := range 8 {
				for h := range s + 1 {
					want = want || s == setup && h == hold
				}
			}
			right(t, setup, hold, want)
		}
	}
}

func TestRightAtEdges(t *testing.T) {
	for _, c := range []struct {
		setup, hold int
		want        bool
	}{
		{0, 0, true}, {7, 0, true}, {7, 7, true}, {0, 7, false}, {6, 7, false}, {0, 1, false}, {8, 7, false}, {8, 8, false}, {7, 8, false}, {8, 0, false}, {0, -1, false}, {-1, 0, false}, {-1, -1, false}, {7, -1, false}, {-1, -2, false},
	} {
		right(t, c.setup, c.hold, c.want)
	}
	// These are 0 to 7 only if some of their bits are left out.
	for _, far := range []int{math.MinInt, -1 << 32, -256, -8, 8, 256, 1 << 32, 1<<32 + 7, math.MaxInt} {
		for near := range 8 {
			right(t, far, near, false)
			right(t, near, far, false)
		}
		right(t, far, far, false)
		right(t, math.MaxInt, far, false)
		right(t, far, math.MinInt, false)
	}
}

// P12.3

func TestCovers(t *testing.T) {
	for _, c := range []struct {
		a, b api.Want
		want bool
	}{
		{api.Want{Any: 6}, api.Want{Any: 2}, true}, {api.Want{Any: 2}, api.Want{Any: 6}, false}, {api.Want{Any: 2}, api.Want{}, false},
		{api.Want{}, api.Want{}, true}, {api.Want{}, api.Want{Bw: 1, Any: 1, All: 2, None: 4}, true},
		{api.Want{Any: 6}, api.Want{Any: 6}, true}, {api.Want{Any: 6}, api.Want{Any: 4}, true}, {api.Want{Any: 6}, api.Want{Any: 1}, false}, {api.Want{Any: 6}, api.Want{Any: 3}, false}, {api.Want{Any: 6}, api.Want{}, false}, {api.Want{}, api.Want{Any: 6}, true},
		{api.Want{All: 6}, api.Want{All: 6}, true}, {api.Want{All: 6}, api.Want{All: 7}, true}, {api.Want{All: 6}, api.Want{All: 2}, false}, {api.Want{All: 6}, api.Want{All: 9}, false}, {api.Want{All: 6}, api.Want{}, false}, {api.Want{}, api.Want{All: 6}, true},
		{api.Want{None: 6}, api.Want{None: 6}, true}, {api.Want{None: 6}, api.Want{None: 7}, true}, {api.Want{None: 6}, api.Want{None: 2}, false}, {api.Want{None: 6}, api.Want{None: 9}, false}, {api.Want{None: 6}, api.Want{}, false}, {api.Want{}, api.Want{None: 6}, true},
		{api.Want{Bw: 5}, api.Want{Bw: 5}, true}, {api.Want{Bw: 5}, api.Want{Bw: 6}, true}, {api.Want{Bw: 5}, api.Want{Bw: 4}, false}, {api.Want{Bw: 5}, api.Want{}, false}, {api.Want{}, api.Want{Bw: 5}, true},
		{api.Want{Bw: 1}, api.Want{Bw: math.MaxUint64}, true}, {api.Want{Bw: math.MaxUint64}, api.Want{Bw: 1}, false}, {api.Want{Bw: math.MaxInt64}, api.Want{Bw: 1 << 63}, true}, {api.Want{Bw: 1 << 63}, api.Want{Bw: math.MaxInt64}, false}, {api.Want{Bw: 1 << 32}, api.Want{Bw: 1}, false}, {api.Want{Bw: math.MaxUint64}, api.Want{Bw: math.MaxUint64}, true},
		// One of them is not instead of another one, even if the same links are allowed, or none.
		{api.Want{Any: 2}, api.Want{All: 2}, false}, {api.Want{All: 2}, api.Want{Any: 2}, false}, {api.Want{All: 2}, api.Want{None: 2}, false}, {api.Want{None: 2}, api.Want{All: 2}, false}, {api.Want{Any: 1}, api.Want{Any: 3, None: 2}, false}, {api.Want{Any: 1}, api.Want{All: 2, None: 2}, false},
		{api.Want{Bw: 1}, api.Want{Any: 1, All: 1, None: 2}, false}, {api.Want{All: 1}, api.Want{Bw: 9}, false},
		{api.Want{Any: top}, api.Want{Any: top | 1}, false}, {api.Want{Any: top | 1}, api.Want{Any: top}, true}, {api.Want{All: top}, api.Want{All: 1}, false}, {api.Want{None: top}, api.Want{None: 1}, false},
	} {
		covers(t, c.a, c.b, c.want)
	}
}

func TestCoversEachWant(t *testing.T) {
	all := each(few())
	for _, a := range all {
		for _, b := range all {
			covers(t, a, b, covered(a, b))
		}
	}
}

func TestCoversMany(t *testing.T) {
	next := mix(2)
	yes := 0
	for range 100000 {
		a := random(next)
		b := harder(next, a)
		want := covered(a, b)
		covers(t, a, b, want)
		covers(t, b, a, covered(b, a))
		other := random(next)
		covers(t, a, other, covered(a, other))
		if want {
			yes++
		}
	}
	if yes < 50000 || yes > 99000 {
		t.Errorf("%d covered", yes)
	}
}

// Priorities count for nothing, even if they are not valid.
func TestCoversAnyPriorities(t *testing.T) {
	numbers := []int{math.MinInt, -1, 0, 3, 7, 8, math.MaxInt}
	a, b := api.Want{Bw: 1, Any: 6, All: 1, None: 8}, api.Want{Bw: 2, Any: 2, All: 1, None: 24}
	for _, one := range numbers {
		for _, two := range numbers {
			a.Setup, a.Hold, b.Setup, b.Hold = one, two, two, one
			covers(t, a, b, true)
			covers(t, b, a, false)
			a.Hold, b.Setup = one, one
			covers(t, a, b, true)
			covers(t, b, a, false)
		}
	}
}

// P12.4

func TestWeakerEach(t *testing.T) {
	all := each(few())
	groups := few()
	both := 0
	for _, a := range all {
		for _, b := range all {
			if !Covers(a, b) {
				continue
			}
			for _, g := range groups {
				if Allows(b, g) {
					allows(t, a, g, true)
					both++
				}
			}
		}
	}
	if both < 3000 {
		t.Errorf("%d allowed", both)
	}
}

func TestWeakerMany(t *testing.T) {
	next := mix(3)
	both := 0
	for range 200000 {
		a := random(next)
		b := harder(next, a)
		// Mostly a link on which b is allowed, if there is one.
		groups := (bits(next) | b.All | b.Any&bits(next)) &^ b.None
		if Covers(a, b) && Allows(b, groups) {
			allows(t, a, groups, true)
			both++
		}
	}
	if both < 10000 {
		t.Errorf("%d allowed", both)
	}
}

// P12.5

func TestReflexive(t *testing.T) {
	next := mix(4)
	all := each(few())
	for range 100000 {
		all = append(all, random(next))
	}
	for _, w := range all {
		for _, bw := range []uint64{w.Bw, 1 << 63, math.MaxUint64} {
			w.Bw = bw
			covers(t, w, w, true)
		}
	}
}

func TestTransitiveEach(t *testing.T) {
	var all []api.Want
	for _, w := range each([]uint32{0, 1, top, top | 1}) {
		for _, bw := range []uint64{0, 1, math.MaxUint64} {
			w.Bw = bw
			all = append(all, w)
		}
	}
	for _, a := range all {
		for _, b := range all {
			if !Covers(a, b) {
				continue
			}
			for _, c := range all {
				if Covers(b, c) {
					covers(t, a, c, true)
				}
			}
		}
	}
}

func TestTransitiveMany(t *testing.T) {
	next := mix(5)
	both := 0
	for range 100000 {
		a := random(next)
		b := harder(next, a)
		c := harder(next, b)
		if Covers(a, b) && Covers(b, c) {
			covers(t, a, c, true)
			both++
		}
	}
	if both < 10000 {
		t.Errorf("%d covered", both)
	}
}
