package soft

import (
	"cmp"
	"math"
	"reflect"
	"slices"
	"testing"

	"viaduct/api"
)

// far are numbers that no field of a state may be, and that a computation may go wrong for.
var far = []int{math.MinInt, -Never, -1, Never + 1, math.MaxInt}

// mix answers numbers from 0 to n - 1 without an order to be seen, the same in every run.
func mix(seed uint64) func(n int) int {
	return func(n int) int {
		seed = seed*6364136223846793005 + 1442695040888963407
		return int(((seed ^ seed>>29) >> 8) % uint64(n))
	}
}

// path is the key of a path from 0 to 2.
func path(tunnel, lsp int) api.Key {
	return api.Key{Tail: 2, Tunnel: tunnel, Head: 0, Lsp: lsp}
}

// state is one of path, with a number of its own in each field.
func state(tunnel, lsp int) State {
	return State{
		Key:   path(tunnel, lsp),
		Want:  api.Want{Bw: 4, Setup: 5, Hold: 3, Any: 1, All: 2, None: 4},
		Route: []int{0, 7, 1, 2},
		At:    1, Until: 50, In: 17, Out: 18, Keep: 30, Seen: 9,
	}
}

// times is a state that lives, and whose label is kept, for so long.
func times(tunnel, until, keep, out int) State {
	s := state(tunnel, 1)
	s.Until, s.Keep, s.Out = until, keep, out
	return s
}

// via is a state of a route, at its first node.
func via(tunnel, lsp int, route ...int) State {
	s := state(tunnel, lsp)
	s.Key.Head, s.Key.Tail, s.Route, s.At = route[0], route[len(route)-1], route, 0
	return s
}

// tunnels are the keys of paths of these tunnels, each with the Lsp 1.
func tunnels(all ...int) []api.Key {
	var l []api.Key
	for _, tunnel := range all {
		l = append(l, path(tunnel, 1))
	}
	return l
}

// table is one of a size with some states.
func table(t *testing.T, most int, all ...State) *Table {
	t.Helper()
	x := New(most)
	for _, s := range all {
		puts(t, x, s, api.OK)
	}
	return x
}

func puts(t *testing.T, x *Table, s State, want api.Errno) {
	t.Helper()
	if err := x.Put(s); err != want {
		t.Fatalf("Put(%+v) = %d, not %d", s, err, want)
	}
}

func drops(t *testing.T, x *Table, k api.Key, want api.Errno) {
	t.Helper()
	if err := x.Drop(k); err != want {
		t.Fatalf("Drop(%v) = %d, not %d", k, err, want)
	}
}

// gets asks for a state under its key.
func gets(t *testing.T, x *Table, want State) {
	t.Helper()
	if s, err := x.Get(want.Key); !same(s, want) || err != api.OK {
		t.Fatalf("Get(%v) = %+v, %d, not %+v", want.Key, s, err, want)
	}
}

// lacks asks for no state under a key.
func lacks(t *testing.T, x *Table, k api.Key) {
	t.Helper()
	if s, err := x.Get(k); !same(s, State{}) || err != api.ErrNone {
		t.Fatalf("Get(%v) = %+v, %d, not the error %d", k, s, err, api.ErrNone)
	}
}

// has asks for what is in a table, in this order.
func has(t *testing.T, x *Table, all ...State) {
	t.Helper()
	if got := x.All(); !slices.EqualFunc(got, all, same) {
		t.Fatalf("All: %+v, not %+v", got, all)
	}
	if got := x.Len(); got != len(all) {
		t.Fatalf("Len: %d, not %d", got, len(all))
	}
	for _, s := range all {
		gets(t, x, s)
	}
}

// late asks for the keys of Late at a tick, and lapsed for those of Lapsed.
func late(t *testing.T, x *Table, now int, want ...api.Key) {
	t.Helper()
	if got := x.Late(now); !slices.Equal(got, want) {
		t.Fatalf("Late(%d) = %v, not %v", now, got, want)
	}
}

func lapsed(t *testing.T, x *Table, now int, want ...api.Key) {
	t.Helper()
	if got := x.Lapsed(now); !slices.Equal(got, want) {
		t.Fatalf("Lapsed(%d) = %v, not %v", now, got, want)
	}
}

// same compares states in all fields; routes without nodes are alike.
func same(a, b State) bool {
	if !slices.Equal(a.Route, b.Route) {
		return false
	}
	a.Route, b.Route = nil, nil
	return reflect.DeepEqual(a, b)
}

// copied is a state with a route of its own.
func copied(s State) State {
	s.Route = slices.Clone(s.Route)
	return s
}

// valid says by another way whether a state is valid: each field by what it may not be.
func valid(s State) bool {
	times := map[int]int{}
	for _, node := range s.Route {
		times[node]++
		if node < 0 || node > 15 || times[node] > 1 {
			return false
		}
	}
	for _, u := range []int{s.In, s.Out} {
		if u < 0 || u > 1048575 || u < 16 && u != 0 && u != 3 {
			return false
		}
	}
	for _, u := range []int{s.Until, s.Keep, s.Seen} {
		if u < 0 || u > 1099511627776 {
			return false
		}
	}
	for _, u := range []int{s.Key.Tunnel, s.Key.Lsp} {
		if u < 0 || u > 65535 {
			return false
		}
	}
	for _, u := range []int{s.Want.Setup, s.Want.Hold} {
		if u < 0 || u > 7 {
			return false
		}
	}
	n := len(s.Route)
	switch {
	case n < 2, n > 16, s.At < 0, s.At >= n, s.Want.Hold > s.Want.Setup:
		return false
	}
	return s.Route[0] == s.Key.Head && s.Route[n-1] == s.Key.Tail
}

// P18.1

func TestNew(t *testing.T) {
	for most := 1; most <= api.MaxStates; most++ {
		x := New(most)
		if x == nil {
			t.Fatalf("New(%d) = nil", most)
		}
		has(t, x)
		late(t, x, math.MaxInt)
		lapsed(t, x, math.MaxInt)
		lacks(t, x, path(1, 1))
		drops(t, x, path(1, 1), api.ErrNone)
	}
	for _, most := range append([]int{0, 65, 66, 128, 256, 1 << 32}, far...) {
		if New(most) != nil {
			t.Errorf("New(%d) is not nil", most)
		}
	}
}

func TestNewAnswersAnotherTableEachTime(t *testing.T) {
	a, b := New(3), New(3)
	puts(t, a, state(1, 1), api.OK)
	has(t, a, state(1, 1))
	has(t, b)
}

func TestMayOfNumbers(t *testing.T) {
	for _, c := range []struct {
		name  string
		set   func(s *State, n int)
		right []int
		wrong []int
	}{
		{"Tunnel", func(s *State, n int) { s.Key.Tunnel = n }, []int{0, 1, 256, 65534, 65535}, []int{65536, 65537, 1 << 32}},
		{"Lsp", func(s *State, n int) { s.Key.Lsp = n }, []int{0, 1, 256, 65534, 65535}, []int{65536, 65537, 1 << 32}},
		{"Setup", func(s *State, n int) { s.Want.Setup = n }, []int{3, 4, 5, 6, 7}, []int{0, 1, 2, 8, 9, 1 << 32}},
		{"Hold", func(s *State, n int) { s.Want.Hold = n }, []int{0, 1, 2, 3, 4, 5}, []int{6, 7, 8, 1 << 32}},
		{"Bw", func(s *State, n int) { s.Want.Bw = uint64(n) }, []int{math.MinInt, -1, 0, 1, math.MaxInt}, nil},
		{"groups", func(s *State, n int) { s.Want.Any, s.Want.All, s.Want.None = uint32(n), uint32(n), uint32(n) }, []int{-1, 0, 1, 1 << 31}, nil},
		{"At", func(s *State, n int) { s.At = n }, []int{0, 1, 2, 3}, []int{-2, 4, 5, 15, 16, 1 << 32}},
		{"In", func(s *State, n int) { s.In = n }, []int{0, 3, 16, 17, 1048574, 1048575}, []int{1, 2, 4, 5, 14, 15, 1048576, 1048577, 1048579}},
		{"Out", func(s *State, n int) { s.Out = n }, []int{0, 3, 16, 17, 1048574, 1048575}, []int{1, 2, 4, 5, 14, 15, 1048576, 1048577, 1048579}},
		{"Until", func(s *State, n int) { s.Until = n }, []int{0, 1, 1 << 32, 1<<40 - 1, 1 << 40}, []int{1<<40 + 2}},
		{"Keep", func(s *State, n int) { s.Keep = n }, []int{0, 1, 1 << 32, 1<<40 - 1, 1 << 40}, []int{1<<40 + 2}},
		{"Seen", func(s *State, n int) { s.Seen = n }, []int{0, 1, 1 << 32, 1<<40 - 1, 1 << 40}, []int{1<<40 + 2}},
	} {
		if len(c.wrong) > 0 {
			c.wrong = append(c.wrong, far...)
		}
		for _, n := range c.right {
			s := state(1, 1)
			if c.set(&s, n); !May(s) {
				t.Errorf("%s %d: May(%+v) = false", c.name, n, s)
			}
		}
		for _, n := range c.wrong {
			s := state(1, 1)
			if c.set(&s, n); May(s) {
				t.Errorf("%s %d: May(%+v) = true", c.name, n, s)
			}
		}
	}
}

func TestMayOfRoutes(t *testing.T) {
	all := make([]int, 16)
	for i := range all {
		all[i] = 15 - i
	}
	for _, route := range [][]int{{0, 1}, {1, 0}, {15, 0}, {3, 15}, {4, 2, 3}, {9, 5, 6, 7}, all, all[:15], all[7:]} {
		s := via(1, 1, route...)
		for s.At = range route {
			if !May(s) {
				t.Errorf("May(%+v) = false", s)
			}
		}
		for _, at := range []int{-1, len(route), len(route) + 1} {
			if s.At = at; May(s) {
				t.Errorf("May(%+v) = true", s)
			}
		}
	}
	for _, route := range [][]int{
		{0}, {5}, {0, 0}, {1, 2, 1}, {1, 2, 2}, {1, 1, 2}, {0, 3, 4, 3, 1}, {0, 1, 2, 3, 0},
		{0, 16}, {16, 0}, {0, 16, 1}, {0, -1, 1}, {-1, 0}, {0, -1}, {0, 17, 1}, {0, 256, 1}, {0, math.MinInt, 1}, {0, math.MaxInt, 1},
		append(slices.Clone(all), 16), append([]int{16}, all...), append(slices.Clone(all), 0), append(slices.Clone(all), 7), make([]int, 1000),
	} {
		if s := via(1, 1, route...); May(s) {
			t.Errorf("May(%+v) = true", s)
		}
	}
}

// The ends of a route are those of its key.
func TestMayOfEnds(t *testing.T) {
	for _, k := range []api.Key{{Tail: 2, Head: 7}, {Tail: 2, Head: 2}, {Tail: 2, Head: 1}, {Tail: 0, Head: 0}, {Tail: 1, Head: 0}, {Tail: 7, Head: 0}, {Tail: 0, Head: 2}, {Tail: 3, Head: 4}, {Tail: -1, Head: 0}, {Tail: 2, Head: 16}} {
		s := state(1, 1)
		if s.Key = k; May(s) {
			t.Errorf("May(%+v) = true", s)
		}
	}
}

func TestMayWithoutRoute(t *testing.T) {
	for _, at := range []int{-1, 0, 1} {
		for _, route := range [][]int{nil, {}, make([]int, 0, 4)} {
			s := state(1, 1)
			if s.Route, s.At = route, at; May(s) {
				t.Errorf("May(%+v) = true", s)
			}
		}
	}
	if May(State{}) {
		t.Error("May of the zero value")
	}
}

// A state with one fault is not valid, whatever else is in it.
func TestMayByAnotherWay(t *testing.T) {
	next := mix(1)
	edges := []int{-1, 0, 1, 2, 3, 4, 7, 8, 15, 16, 17, 65535, 65536, 1048575, 1048576, Never, Never + 1}
	right := 0
	for range 200000 {
		route := []int{next(16), next(16), next(16), next(16), next(16), next(16)}
		s := via(1, 1, route[:2+next(5)]...)
		s.At = next(len(s.Route))
		for range next(3) {
			fields := []*int{&s.Key.Tail, &s.Key.Tunnel, &s.Key.Head, &s.Key.Lsp, &s.Want.Setup, &s.Want.Hold, &s.At, &s.Until, &s.In, &s.Out, &s.Keep, &s.Seen, &s.Route[next(len(s.Route))]}
			*fields[next(len(fields))] = edges[next(len(edges))]
		}
		want := valid(s)
		if want {
			right++
		}
		if got := May(s); got != want {
			t.Fatalf("May(%+v) = %t", s, got)
		}
	}
	if right < 20000 || right > 180000 {
		t.Errorf("%d states are valid", right)
	}
}

// P18.2

func TestPutAndGet(t *testing.T) {
	x := New(4)
	for i, s := range []State{state(5, 1), state(5, 2), state(4, 9), via(5, 1, 3, 2)} {
		lacks(t, x, s.Key)
		puts(t, x, s, api.OK)
		gets(t, x, s)
		if x.Len() != i+1 {
			t.Fatalf("Len: %d, not %d", x.Len(), i+1)
		}
	}
	has(t, x, state(4, 9), state(5, 1), state(5, 2), via(5, 1, 3, 2))
}

// Each field of a state that is put takes the place of the one before.
func TestPutInPlace(t *testing.T) {
	x := table(t, 3, state(1, 1), state(2, 1), state(3, 1))
	for i, turn := range []func(s *State){
		func(s *State) { s.Want = api.Want{} }, func(s *State) { s.Route = []int{0, 2} }, func(s *State) { s.Route = []int{0, 9, 8, 5, 2} }, func(s *State) { s.At = 0 },
		func(s *State) { s.Until = 0 }, func(s *State) { s.In = 0 }, func(s *State) { s.Out = 0 }, func(s *State) { s.Keep = 0 }, func(s *State) { s.Seen = 0 },
		func(s *State) { s.Until, s.Keep, s.Seen = Never, Never, Never }, func(s *State) { s.In, s.Out = api.Null, api.MaxLabel },
	} {
		s := state(2, 1)
		turn(&s)
		puts(t, x, s, api.OK)
		if has(t, x, state(1, 1), s, state(3, 1)); same(s, state(2, 1)) {
			t.Fatalf("number %d changes nothing", i)
		}
	}
	puts(t, x, state(2, 1), api.OK)
	has(t, x, state(1, 1), state(2, 1), state(3, 1))
}

// Keys that differ in one number are those of different states.
func TestKeysAreCompared(t *testing.T) {
	all := []State{via(1, 1, 0, 2), via(1, 2, 0, 2), via(1, 1, 0, 3), via(2, 1, 0, 2), via(1, 1, 1, 2)}
	x := New(len(all))
	for _, s := range all {
		puts(t, x, s, api.OK)
	}
	has(t, x, all...)
	for i, s := range all {
		drops(t, x, s.Key, api.OK)
		drops(t, x, s.Key, api.ErrNone)
		has(t, x, all[i+1:]...)
	}
}

func TestPutFull(t *testing.T) {
	for most := 1; most <= api.MaxStates; most++ {
		x := New(most)
		var all []State
		for i := range most {
			all = append(all, state(i, 1))
			puts(t, x, state(i, 1), api.OK)
		}
		has(t, x, all...)
		for _, s := range []State{state(most, 1), state(0, 0), state(0, 2), via(0, 1, 1, 2)} {
			puts(t, x, s, api.ErrFull)
			has(t, x, all...)
		}
		all[most/2].Seen++
		puts(t, x, all[most/2], api.OK)
		has(t, x, all...)
		drops(t, x, all[most/2].Key, api.OK)
		lacks(t, x, all[most/2].Key)
		has(t, x, slices.Delete(slices.Clone(all), most/2, most/2+1)...)
		puts(t, x, state(most, 1), api.OK)
		puts(t, x, state(most/2, 1), api.ErrFull)
	}
}

// A state that is not valid is refused, and leaves the one of its key as it is.
func TestPutArg(t *testing.T) {
	for _, most := range []int{1, 2} {
		x := table(t, most, state(1, 1))
		for _, turn := range []func(s *State){
			func(s *State) { s.Until = -1 }, func(s *State) { s.Keep = Never + 1 }, func(s *State) { s.Seen = -1 }, func(s *State) { s.In = 15 }, func(s *State) { s.Out = -3 },
			func(s *State) { s.At = 4 }, func(s *State) { s.Route = nil }, func(s *State) { s.Route = []int{0, 1, 1, 2} }, func(s *State) { s.Want.Setup = 8 }, func(s *State) { s.Want.Hold = 6 },
			func(s *State) { s.Key.Tunnel = 65536 }, func(s *State) { s.Key.Lsp = -1 }, func(s *State) { s.Key.Head = 1 }, func(s *State) { s.Key.Tail = 1 },
		} {
			s := state(1, 1)
			turn(&s)
			puts(t, x, s, api.ErrArg)
			has(t, x, state(1, 1))
		}
		puts(t, x, State{}, api.ErrArg)
		has(t, x, state(1, 1))
	}
}

func TestNoneOfKey(t *testing.T) {
	x := table(t, 3, state(1, 1), state(2, 1))
	for _, k := range []api.Key{{}, path(0, 1), path(1, 0), path(1, 2), path(3, 1), {Tail: 2, Tunnel: 1, Head: 1, Lsp: 1}, {Tail: 3, Tunnel: 1, Head: 0, Lsp: 1}, {Tail: math.MinInt, Tunnel: -1, Head: math.MaxInt, Lsp: 65536}, path(1, math.MaxInt), path(1+1<<32, 1)} {
		lacks(t, x, k)
		drops(t, x, k, api.ErrNone)
		has(t, x, state(1, 1), state(2, 1))
	}
}

func TestDropAll(t *testing.T) {
	x := table(t, 2, state(1, 1), state(2, 1))
	drops(t, x, path(2, 1), api.OK)
	has(t, x, state(1, 1))
	drops(t, x, path(1, 1), api.OK)
	has(t, x)
	drops(t, x, path(1, 1), api.ErrNone)
	puts(t, x, state(2, 1), api.OK)
	has(t, x, state(2, 1))
}

// R7: tables that New did not create.
func TestTablesOfNobody(t *testing.T) {
	for _, x := range []*Table{nil, {}, new(Table), New(0), New(65)} {
		for range 2 {
			puts(t, x, state(1, 1), api.ErrNil)
			puts(t, x, State{}, api.ErrNil)
			drops(t, x, path(1, 1), api.ErrNil)
			if s, err := x.Get(path(1, 1)); !same(s, State{}) || err != api.ErrNil {
				t.Errorf("Get: %+v, %d", s, err)
			}
			if x.Len() != 0 || len(x.All()) > 0 || len(x.Late(math.MaxInt)) > 0 || len(x.Lapsed(math.MaxInt)) > 0 {
				t.Errorf("%d, %v, %v, %v", x.Len(), x.All(), x.Late(math.MaxInt), x.Lapsed(math.MaxInt))
			}
		}
	}
}

// P18.3

// The first example of the chapter.
func TestExample(t *testing.T) {
	s := times(1, 5, 3, 16)
	x := table(t, 2, s)
	late(t, x, 5)
	late(t, x, 6, s.Key)
	lapsed(t, x, 3)
	lapsed(t, x, 4, s.Key)
	s.Out = 0
	puts(t, x, s, api.OK)
	lapsed(t, x, 4)
	lapsed(t, x, math.MaxInt)
	late(t, x, 6, s.Key)
}

// The order is by Head, then Tunnel, then Tail, then Lsp, whichever way they came.
func TestOrder(t *testing.T) {
	all := []State{
		via(0, 0, 0, 1), via(0, 9, 0, 1), via(0, 0, 0, 2), via(7, 5, 0, 15), via(8, 4, 0, 1), via(8, 5, 0, 1), via(65535, 0, 0, 1),
		via(0, 65535, 1, 0), via(0, 0, 1, 2), via(1, 0, 1, 0), via(0, 0, 15, 0),
	}
	var keys []api.Key
	for i := range all {
		all[i].Until, all[i].Keep = 2, 1
		keys = append(keys, all[i].Key)
	}
	next := mix(2)
	for range 500 {
		mixed := slices.Clone(all)
		for i := range mixed {
			j := next(i + 1)
			mixed[i], mixed[j] = mixed[j], mixed[i]
		}
		x := table(t, 20, mixed...)
		has(t, x, all...)
		late(t, x, 3, keys...)
		lapsed(t, x, 2, keys...)
		i := next(len(mixed))
		drops(t, x, mixed[i].Key, api.OK)
		has(t, x, slices.DeleteFunc(slices.Clone(all), func(s State) bool { return s.Key == mixed[i].Key })...)
	}
}

func TestLate(t *testing.T) {
	x := table(t, 9, times(1, 5, 0, 16), times(2, 0, 9, 0), times(3, Never, 0, 3), times(4, 5, 7, 0), times(5, 6, Never, 17), times(6, Never-1, 0, 0))
	for _, c := range []struct {
		now  int
		want []api.Key
	}{
		{math.MinInt, nil}, {-1, nil}, {0, nil}, {1, tunnels(2)}, {2, tunnels(2)}, {5, tunnels(2)}, {6, tunnels(1, 2, 4)}, {7, tunnels(1, 2, 4, 5)}, {1 << 32, tunnels(1, 2, 4, 5)},
		{Never - 1, tunnels(1, 2, 4, 5)}, {Never, tunnels(1, 2, 4, 5, 6)}, {Never + 1, tunnels(1, 2, 3, 4, 5, 6)}, {math.MaxInt, tunnels(1, 2, 3, 4, 5, 6)},
	} {
		late(t, x, c.now, c.want...)
	}
}

func TestLapsed(t *testing.T) {
	x := table(t, 9, times(1, 0, 5, 16), times(2, 9, 0, 3), times(3, 0, Never, 3), times(4, 7, 5, 0), times(5, Never, 6, api.MaxLabel), times(6, 0, Never-1, 17), times(7, 0, 0, 0))
	for _, c := range []struct {
		now  int
		want []api.Key
	}{
		{math.MinInt, nil}, {-1, nil}, {0, nil}, {1, tunnels(2)}, {2, tunnels(2)}, {5, tunnels(2)}, {6, tunnels(1, 2)}, {7, tunnels(1, 2, 5)}, {1 << 32, tunnels(1, 2, 5)},
		{Never - 1, tunnels(1, 2, 5)}, {Never, tunnels(1, 2, 5, 6)}, {Never + 1, tunnels(1, 2, 3, 5, 6)}, {math.MaxInt, tunnels(1, 2, 3, 5, 6)},
	} {
		lapsed(t, x, c.now, c.want...)
	}
}

// A label that is given to the node ahead is no reservation.
func TestLapsedIsNotOfIn(t *testing.T) {
	s := times(1, 5, 3, 0)
	s.In = 16
	x := table(t, 1, s)
	lapsed(t, x, 9)
	s.In, s.Out = 0, api.Null
	puts(t, x, s, api.OK)
	lapsed(t, x, 9, s.Key)
}

// Being told late or lapsed changes nothing: a state stays until it is removed.
func TestLateStatesStay(t *testing.T) {
	x := table(t, 2, times(1, 5, 3, 16), times(2, 5, 3, 16))
	for range 3 {
		late(t, x, 9, tunnels(1, 2)...)
		lapsed(t, x, 9, tunnels(1, 2)...)
		has(t, x, times(1, 5, 3, 16), times(2, 5, 3, 16))
	}
	puts(t, x, times(3, 99, 99, 0), api.ErrFull)
	puts(t, x, times(1, 9, 9, 16), api.OK)
	late(t, x, 9, tunnels(2)...)
	lapsed(t, x, 9, tunnels(2)...)
	drops(t, x, path(2, 1), api.OK)
	late(t, x, 9)
	lapsed(t, x, 9)
}

// model is a table by another way: its states are in a map, and sorted when they are told.
type model struct {
	most int
	of   map[api.Key]State
}

func (m *model) put(s State) api.Errno {
	if !valid(s) {
		return api.ErrArg
	}
	if _, ok := m.of[s.Key]; !ok && len(m.of) == m.most {
		return api.ErrFull
	}
	m.of[s.Key] = copied(s)
	return api.OK
}

func (m *model) drop(k api.Key) api.Errno {
	if _, ok := m.of[k]; !ok {
		return api.ErrNone
	}
	delete(m.of, k)
	return api.OK
}

func (m *model) all() []State {
	var all []State
	for _, s := range m.of {
		all = append(all, s)
	}
	slices.SortFunc(all, func(a, b State) int {
		x, y := a.Key, b.Key
		return slices.Compare([]int{x.Head, x.Tunnel, x.Tail, x.Lsp}, []int{y.Head, y.Tunnel, y.Tail, y.Lsp})
	})
	return all
}

// expired are the keys of Late and of Lapsed.
func (m *model) expired(now int) (gone, free []api.Key) {
	for _, s := range m.all() {
		if cmp.Compare(now, s.Until) > 0 {
			gone = append(gone, s.Key)
		}
		if cmp.Compare(now, s.Keep) > 0 && s.Out > 0 {
			free = append(free, s.Key)
		}
	}
	return gone, free
}

// some is a state that may have one fault, of few keys, so that there is often one of its key already.
func some(next func(n int) int) State {
	s := via(next(3), next(3), [][]int{{0, 2}, {0, 5, 2}, {1, 2}, {2, 3, 4, 1}, {1, 3, 2}}[next(5)]...)
	s.At, s.Until, s.Keep, s.Seen = next(2), next(12), next(12), next(5)
	s.In, s.Out = []int{0, 3, 16, 70}[next(4)], []int{0, 0, 3, 16}[next(4)]
	if next(10) == 0 {
		fields := []*int{&s.At, &s.Until, &s.Keep, &s.Seen, &s.In, &s.Out, &s.Key.Lsp, &s.Key.Tunnel, &s.Key.Head, &s.Key.Tail, &s.Want.Hold}
		*fields[next(len(fields))] = -1
	}
	return s
}

func TestByAModel(t *testing.T) {
	next := mix(3)
	counts := map[api.Errno]int{}
	for range 400 {
		most := 1 + next(12)
		x, m := New(most), &model{most, map[api.Key]State{}}
		for range 60 {
			s := some(next)
			if next(3) > 0 {
				want := m.put(s)
				counts[want]++
				puts(t, x, s, want)
			} else {
				want := m.drop(s.Key)
				counts[want]++
				drops(t, x, s.Key, want)
			}
			has(t, x, m.all()...)
			if k := some(next).Key; m.of[k].Route == nil {
				lacks(t, x, k)
			}
			now := next(14) - 1
			gone, free := m.expired(now)
			late(t, x, now, gone...)
			lapsed(t, x, now, free...)
		}
	}
	for _, err := range []api.Errno{api.OK, api.ErrArg, api.ErrFull, api.ErrNone} {
		if counts[err] < 500 {
			t.Errorf("the error %d: %d times", err, counts[err])
		}
	}
}

// P18.4

// subset asks for all of some keys to be among others.
func subset(t *testing.T, few, many []api.Key) {
	t.Helper()
	for _, k := range few {
		if !slices.Contains(many, k) {
			t.Fatalf("%v is not in %v any more", k, many)
		}
	}
}

// What is late or lapsed stays so, though other states are asked for and removed.
func TestTime(t *testing.T) {
	next := mix(4)
	grown := 0
	for range 300 {
		x := New(12)
		for range 12 {
			x.Put(some(next))
		}
		gone, free := x.Late(-1), x.Lapsed(-1)
		for now := range 14 {
			if all := x.All(); len(all) > 0 && next(4) == 0 {
				k := all[next(len(all))].Key
				drops(t, x, k, api.OK)
				other := func(l api.Key) bool { return l == k }
				gone, free = slices.DeleteFunc(gone, other), slices.DeleteFunc(free, other)
			}
			subset(t, gone, x.Late(now))
			subset(t, free, x.Lapsed(now))
			grown += len(x.Late(now)) - len(gone) + len(x.Lapsed(now)) - len(free)
			gone, free = x.Late(now), x.Lapsed(now)
		}
		for _, now := range []int{100, 1 << 32, Never, Never + 1, math.MaxInt} {
			subset(t, gone, x.Late(now))
			subset(t, free, x.Lapsed(now))
			gone, free = x.Late(now), x.Lapsed(now)
		}
	}
	if grown < 1000 {
		t.Errorf("%d states were late or lapsed", grown)
	}
}

// An earlier tick that is asked for later is answered as before.
func TestTicksInAnyOrder(t *testing.T) {
	x := table(t, 2, times(1, 5, 3, 16), times(2, 8, 6, 16))
	for _, now := range []int{math.MaxInt, 4, 7, 9, 0, 6} {
		x.Late(now)
		x.Lapsed(now)
		late(t, x, 6, tunnels(1)...)
		late(t, x, 5)
		late(t, x, 9, tunnels(1, 2)...)
		lapsed(t, x, 4, tunnels(1)...)
		lapsed(t, x, 7, tunnels(1, 2)...)
	}
}

// P18.5

// spoil overwrites a route to the end of its memory.
func spoil(route []int) {
	route = route[:cap(route)]
	for i := range route {
		route[i] = 99
	}
}

func TestPutKeepsNothing(t *testing.T) {
	x := New(3)
	route := append(make([]int, 0, 12), 0, 7, 1, 2, 5, 5)[:4]
	s := state(1, 1)
	s.Route = route
	puts(t, x, s, api.OK)
	if !same(s, state(1, 1)) || !slices.Equal(route[:6], []int{0, 7, 1, 2, 5, 5}) {
		t.Fatalf("Put changed %+v, %v", s, route[:6])
	}
	spoil(route)
	has(t, x, state(1, 1))
	s = state(1, 1)
	puts(t, x, s, api.OK)
	spoil(s.Route)
	has(t, x, state(1, 1))
}

func TestPutOfOneRouteTwice(t *testing.T) {
	x, y := New(3), New(3)
	a, b := state(1, 1), state(2, 1)
	b.Route = a.Route
	puts(t, x, a, api.OK)
	puts(t, x, b, api.OK)
	puts(t, y, a, api.OK)
	spoil(a.Route)
	has(t, x, state(1, 1), state(2, 1))
	has(t, y, state(1, 1))
}

func TestGetIsOwnMemory(t *testing.T) {
	x := table(t, 3, state(1, 1), state(2, 1))
	a, _ := x.Get(path(1, 1))
	b, _ := x.Get(path(1, 1))
	spoil(a.Route)
	if !same(b, state(1, 1)) {
		t.Fatalf("two answers share memory: %+v", b)
	}
	has(t, x, state(1, 1), state(2, 1))
	other := table(t, 1, b)
	spoil(b.Route)
	has(t, other, state(1, 1))
}

func TestAllIsOwnMemory(t *testing.T) {
	var all []State
	for i := range 30 {
		all = append(all, state(i, 1))
	}
	x := table(t, 30, all...)
	a, b := x.All(), x.All()
	for i := range a {
		spoil(a[i].Route)
		if !same(b[i], all[i]) {
			t.Fatalf("two answers share memory: %+v", b)
		}
		for _, s := range a[i+1:] {
			if slices.Contains(s.Route, 99) {
				t.Fatalf("two routes of an answer share memory: %+v", a)
			}
		}
		a[i] = State{}
	}
	for a = a[:0]; len(a) < cap(a); {
		a = append(a, state(99, 9))
	}
	has(t, x, all...)
}

// Answers stay as they are, whatever is put and removed later.
func TestAnswersStay(t *testing.T) {
	x := table(t, 3, times(1, 5, 3, 16), times(2, 5, 3, 16), times(3, 5, 3, 16))
	all, gone, free := x.All(), x.Late(9), x.Lapsed(9)
	got, _ := x.Get(path(2, 1))
	s := times(2, 6, 4, 17)
	s.Route = []int{0, 11, 12, 2}
	puts(t, x, s, api.OK)
	drops(t, x, path(1, 1), api.OK)
	puts(t, x, times(0, 9, 9, 0), api.OK)
	if !slices.EqualFunc(all, []State{times(1, 5, 3, 16), times(2, 5, 3, 16), times(3, 5, 3, 16)}, same) || !same(got, times(2, 5, 3, 16)) {
		t.Errorf("All: %+v, Get: %+v", all, got)
	}
	if !slices.Equal(gone, tunnels(1, 2, 3)) || !slices.Equal(free, tunnels(1, 2, 3)) {
		t.Errorf("Late: %v, Lapsed: %v", gone, free)
	}
}

func TestKeysAreOwnMemory(t *testing.T) {
	x := table(t, 3, times(1, 5, 3, 16), times(2, 5, 3, 16))
	for _, ask := range []func(now int) []api.Key{x.Late, x.Lapsed} {
		a, b := ask(9), ask(9)
		a[0], a[1] = api.Key{}, api.Key{}
		if !slices.Equal(b, tunnels(1, 2)) || !slices.Equal(ask(9), tunnels(1, 2)) {
			t.Errorf("%v, %v", b, ask(9))
		}
		has(t, x, times(1, 5, 3, 16), times(2, 5, 3, 16))
	}
}

func TestMayChangesNothing(t *testing.T) {
	s := state(1, 1)
	s.Route = append(make([]int, 0, 12), 0, 7, 1, 2, 5, 5)[:4]
	if May(s); !slices.Equal(s.Route[:6], []int{0, 7, 1, 2, 5, 5}) {
		t.Errorf("May changed %v", s.Route[:6])
	}
}
