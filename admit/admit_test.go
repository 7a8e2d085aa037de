package admit

import (
	"math"
	"math/big"
	"slices"
	"testing"

	"viaduct/api"
	"viaduct/ledger"
)

const (
	// most is the greatest number of 64 bits.
	most = math.MaxUint64
	// half is the least one whose double is none of them.
	half = 1 << 63
)

// mix answers numbers without an order to be seen, the same in every run.
func mix(seed uint64) func(n int) int {
	return func(n int) int {
		seed = seed*6364136223846793005 + 1442695040888963407
		return int(((seed ^ seed>>29) >> 8) % uint64(n))
	}
}

// key is that of a path of a tunnel from 0 to 3.
func key(tunnel, lsp int) api.Key {
	return api.Key{Tail: 3, Tunnel: tunnel, Lsp: lsp}
}

func want(bw uint64, setup, hold int) api.Want {
	return api.Want{Bw: bw, Setup: setup, Hold: hold}
}

// entry is that of key and want.
func entry(tunnel, lsp int, bw uint64, setup, hold int) Entry {
	return Entry{key(tunnel, lsp), want(bw, setup, hold)}
}

// tunnels are the keys of paths of these tunnels, each with the Lsp 1.
func tunnels(all ...int) []api.Key {
	var l []api.Key
	for _, tunnel := range all {
		l = append(l, key(tunnel, 1))
	}
	return l
}

// table is one of a size, with paths that it admits without preemption.
func table(t *testing.T, size uint64, all ...Entry) *Table {
	t.Helper()
	x := New(size)
	for _, e := range all {
		admits(t, x, e)
	}
	return x
}

// admits asks for a path to be admitted, and for those that are preempted.
func admits(t *testing.T, x *Table, e Entry, gone ...api.Key) {
	t.Helper()
	if got, err := x.Admit(e.Key, e.Want); !slices.Equal(got, gone) || err != api.OK {
		t.Fatalf("Admit(%v, %+v) = %v, %d, not %v", e.Key, e.Want, got, err, gone)
	}
}

// refuses asks for an error, without keys, and for a table that has not changed.
func refuses(t *testing.T, x *Table, e Entry, want api.Errno) {
	t.Helper()
	all, book := x.Entries(), x.Ledger()
	if got, err := x.Admit(e.Key, e.Want); len(got) > 0 || err != want {
		t.Fatalf("Admit(%v, %+v) = %v, %d, not the error %d", e.Key, e.Want, got, err, want)
	}
	if !slices.Equal(x.Entries(), all) || x.Ledger() != book {
		t.Fatalf("Admit(%v, %+v) changed %v, %v to %v, %v", e.Key, e.Want, all, book, x.Entries(), x.Ledger())
	}
}

func drops(t *testing.T, x *Table, k api.Key, want api.Errno) {
	t.Helper()
	if err := x.Drop(k); err != want {
		t.Fatalf("Drop(%v) = %d, not %d", k, err, want)
	}
}

// has asks for what a table holds.
func has(t *testing.T, x *Table, size uint64, held [8]uint64, all ...Entry) {
	t.Helper()
	if got := x.Entries(); !slices.Equal(got, all) {
		t.Fatalf("Entries: %v, not %v", got, all)
	}
	if got := x.Ledger(); got != (ledger.Ledger{Cap: size, Held: held}) {
		t.Fatalf("Ledger: %v, not %d, %v", got, size, held)
	}
}

// model is a table by another way: its families are in a map, and its sums are numbers of any size.
type model struct {
	size uint64
	of   map[name]map[int]api.Want
}

// name is that of a family.
type name struct {
	head, tunnel, tail int
}

// share is what counts of a family.
type share struct {
	name     name
	bw       uint64
	priority int
}

// modelOf is the model of a table, as its Entries say.
func modelOf(x *Table) *model {
	m := &model{x.Ledger().Cap, map[name]map[int]api.Want{}}
	for _, e := range x.Entries() {
		m.add(e.Key, e.Want)
	}
	return m
}

func (m *model) add(k api.Key, w api.Want) {
	if m.of[nameOf(k)] == nil {
		m.of[nameOf(k)] = map[int]api.Want{}
	}
	m.of[nameOf(k)][k.Lsp] = w
}

func nameOf(k api.Key) name {
	return name{k.Head, k.Tunnel, k.Tail}
}

// precedes compares the numbers of keys one by one.
func precedes(a, b api.Key) bool {
	l, m := []int{a.Head, a.Tunnel, a.Tail, a.Lsp}, []int{b.Head, b.Tunnel, b.Tail, b.Lsp}
	for i := range l {
		if l[i] != m[i] {
			return l[i] < m[i]
		}
	}
	return false
}

func sorted(l []api.Key) []api.Key {
	slices.SortFunc(l, func(a, b api.Key) int {
		switch {
		case precedes(a, b):
			return -1
		case precedes(b, a):
			return 1
		}
		return 0
	})
	return l
}

func (m *model) len() int {
	n := 0
	for _, paths := range m.of {
		n += len(paths)
	}
	return n
}

// shares are those of all families, the ones first that are preempted first, with what another path adds to them.
func (m *model) shares(more Entry) []share {
	var all []share
	for id, paths := range m.of {
		g := share{name: id, priority: 99}
		for _, w := range paths {
			g.bw, g.priority = max(g.bw, w.Bw), min(g.priority, w.Hold)
		}
		if id == nameOf(more.Key) {
			g.bw, g.priority = max(g.bw, more.Want.Bw), min(g.priority, more.Want.Hold)
		}
		if len(paths) > 0 {
			all = append(all, g)
		}
	}
	if len(m.of[nameOf(more.Key)]) == 0 {
		all = append(all, share{nameOf(more.Key), more.Want.Bw, more.Want.Hold})
	}
	slices.SortFunc(all, func(a, b share) int {
		first := api.Key{Head: a.name.head, Tunnel: a.name.tunnel, Tail: a.name.tail}
		other := api.Key{Head: b.name.head, Tunnel: b.name.tunnel, Tail: b.name.tail}
		if a.priority > b.priority || a.priority == b.priority && (a.bw > b.bw || a.bw == b.bw && precedes(other, first)) {
			return -1
		}
		return 1
	})
	return all
}

func (m *model) fits(all []share) bool {
	sum := new(big.Int)
	for _, g := range all {
		sum.Add(sum, new(big.Int).SetUint64(g.bw))
	}
	return sum.Cmp(new(big.Int).SetUint64(m.size)) <= 0
}

func (m *model) admit(k api.Key, w api.Want) ([]api.Key, api.Errno) {
	if w.Setup < 0 || w.Setup > 7 || w.Hold < 0 || w.Hold > 7 || w.Hold > w.Setup {
		return nil, api.ErrArg
	}
	if _, ok := m.of[nameOf(k)][k.Lsp]; ok {
		return nil, api.ErrHave
	}
	if m.len() >= 64 {
		return nil, api.ErrFull
	}
	var may, stay, gone []share
	for _, g := range m.shares(Entry{k, w}) {
		if g.name != nameOf(k) && g.priority > w.Setup {
			may = append(may, g)
		} else {
			stay = append(stay, g)
		}
	}
	for !m.fits(slices.Concat(may, stay)) {
		if len(may) == 0 {
			return nil, api.ErrRoom
		}
		gone, may = append(gone, may[0]), may[1:]
	}
	var keys []api.Key
	for _, g := range gone {
		for lsp := range m.of[g.name] {
			keys = append(keys, api.Key{Tail: g.name.tail, Tunnel: g.name.tunnel, Head: g.name.head, Lsp: lsp})
		}
		delete(m.of, g.name)
	}
	m.add(k, w)
	return sorted(keys), api.OK
}

func (m *model) drop(k api.Key) api.Errno {
	if _, ok := m.of[nameOf(k)][k.Lsp]; !ok {
		return api.ErrNone
	}
	delete(m.of[nameOf(k)], k.Lsp)
	return api.OK
}

func (m *model) entries() []Entry {
	var keys []api.Key
	for id, paths := range m.of {
		for lsp := range paths {
			keys = append(keys, api.Key{Tail: id.tail, Tunnel: id.tunnel, Head: id.head, Lsp: lsp})
		}
	}
	var all []Entry
	for _, k := range sorted(keys) {
		all = append(all, Entry{k, m.of[nameOf(k)][k.Lsp]})
	}
	return all
}

func (m *model) held() [8]uint64 {
	var all [8]uint64
	for _, paths := range m.of {
		bw, priority := uint64(0), 7
		for _, w := range paths {
			bw, priority = max(bw, w.Bw), min(priority, w.Hold)
		}
		all[priority] += bw
	}
	return all
}

// P14.1

func TestBeforeAndKin(t *testing.T) {
	l := []api.Key{
		{Tail: 9, Tunnel: 9, Head: -1, Lsp: 9}, {Tail: 9, Tunnel: -5, Head: 0, Lsp: 9}, {Tail: -2, Tunnel: 0, Head: 0, Lsp: 9}, {Tail: 0, Tunnel: 0, Head: 0, Lsp: -3}, {}, {Lsp: 1}, {Lsp: 2}, {Tail: 1}, {Tail: 1, Lsp: 1}, {Tail: 2, Lsp: -9},
		{Tunnel: 1}, {Tunnel: 1, Tail: 1}, {Tunnel: 2, Tail: -7, Lsp: -7}, {Head: 1}, {Head: 1, Lsp: 1}, {Head: 1, Tail: 1}, {Head: 1, Tunnel: 1}, {Head: 2, Tunnel: -1, Tail: -1, Lsp: -1},
	}
	kin := map[int]int{3: 1, 4: 1, 5: 1, 6: 1, 7: 2, 8: 2, 13: 3, 14: 3}
	for i, a := range l {
		for j, b := range l {
			if Before(a, b) != (i < j) {
				t.Errorf("Before(%v, %v) isn't %v", a, b, i < j)
			}
			if want := i == j || kin[i] > 0 && kin[i] == kin[j]; Kin(a, b) != want {
				t.Errorf("Kin(%v, %v) isn't %v", a, b, want)
			}
		}
	}
}

// Any four numbers are a key.
func TestBeforeAndKinOfEach(t *testing.T) {
	var all []api.Key
	numbers := []int{math.MinInt, -1, 0, 1 << 32, math.MaxInt}
	for _, a := range numbers {
		for _, b := range numbers {
			for _, c := range numbers {
				for _, d := range numbers {
					all = append(all, api.Key{Tail: a, Tunnel: b, Head: c, Lsp: d})
				}
			}
		}
	}
	for _, a := range all {
		for _, b := range all {
			if Before(a, b) != precedes(a, b) {
				t.Fatalf("Before(%v, %v) isn't %v", a, b, precedes(a, b))
			}
			if want := nameOf(a) == nameOf(b); Kin(a, b) != want {
				t.Fatalf("Kin(%v, %v) isn't %v", a, b, want)
			}
		}
	}
}

// P14.2

func TestNew(t *testing.T) {
	for _, size := range []uint64{0, 1, 10, math.MaxInt64, half, most} {
		x := New(size)
		has(t, x, size, [8]uint64{})
		drops(t, x, api.Key{}, api.ErrNone)
		drops(t, x, key(1, 1), api.ErrNone)
		has(t, New(size), size, [8]uint64{})
	}
	// Each is one of its own.
	a, b := New(10), New(10)
	admits(t, a, entry(1, 1, 4, 5, 5))
	has(t, b, 10, [8]uint64{})
}

func TestNewSizes(t *testing.T) {
	for _, size := range []uint64{0, 1, 10, math.MaxInt64, half, most - 1} {
		x := New(size)
		refuses(t, x, entry(1, 1, size+1, 7, 0), api.ErrRoom)
		refuses(t, x, entry(1, 1, most, 0, 0), api.ErrRoom)
		admits(t, x, entry(1, 1, size, 7, 0))
		has(t, x, size, [8]uint64{size}, entry(1, 1, size, 7, 0))
		refuses(t, x, entry(2, 1, 1, 0, 0), api.ErrRoom)
		admits(t, x, entry(2, 1, 0, 0, 0))
	}
}

// R7

func TestNotCreated(t *testing.T) {
	for _, x := range []*Table{nil, {}, new(Table)} {
		for range 2 {
			for _, w := range []api.Want{want(0, 0, 0), want(1, 5, 5), want(0, 3, 5), want(most, 8, -1)} {
				if gone, e := x.Admit(key(1, 1), w); gone != nil || e != api.ErrNil {
					t.Errorf("Admit: %v, %d", gone, e)
				}
			}
			drops(t, x, key(1, 1), api.ErrNil)
			if l := x.Entries(); len(l) > 0 {
				t.Errorf("Entries: %v", l)
			}
			if b := x.Ledger(); b != (ledger.Ledger{}) {
				t.Errorf("Ledger: %v", b)
			}
			if x.Copy() != nil {
				t.Error("Copy isn't nil")
			}
		}
	}
}

// P14.3

func TestExample(t *testing.T) {
	x := New(10)
	admits(t, x, entry(1, 1, 6, 5, 5))
	admits(t, x, entry(1, 2, 8, 5, 5))
	has(t, x, 10, [8]uint64{5: 8}, entry(1, 1, 6, 5, 5), entry(1, 2, 8, 5, 5))
	refuses(t, x, entry(2, 1, 3, 5, 5), api.ErrRoom)
	admits(t, x, entry(2, 1, 3, 4, 4), key(1, 1), key(1, 2))
	has(t, x, 10, [8]uint64{4: 3}, entry(2, 1, 3, 4, 4))
	refuses(t, x, entry(3, 1, most, 0, 0), api.ErrRoom)
}

// Without room, only families whose priority is a greater number than Setup can make some.
func TestWhoIsPreempted(t *testing.T) {
	for hold := range 8 {
		for setup := range 8 {
			x := table(t, 10, entry(1, 1, 10, 7, hold))
			if e := entry(2, 1, 1, setup, 0); hold > setup {
				admits(t, x, e, key(1, 1))
				has(t, x, 10, [8]uint64{1}, e)
			} else {
				refuses(t, x, e, api.ErrRoom)
			}
			// With room, nobody has to go.
			x = table(t, 11, entry(1, 1, 10, 7, hold))
			admits(t, x, entry(2, 1, 1, setup, 0))
		}
	}
}

// The path's own Hold, and the Setups of the others, do not count.
func TestOtherPriorities(t *testing.T) {
	refuses(t, table(t, 10, entry(1, 1, 10, 7, 4)), entry(2, 1, 1, 4, 0), api.ErrRoom)
	refuses(t, table(t, 10, entry(1, 1, 10, 7, 0)), entry(2, 1, 1, 0, 0), api.ErrRoom)
	admits(t, table(t, 10, entry(1, 1, 10, 5, 5)), entry(2, 1, 1, 4, 4), key(1, 1))
	admits(t, table(t, 10, entry(1, 1, 10, 7, 5)), entry(2, 1, 1, 4, 0), key(1, 1))
}

// The greatest priority number goes first, whatever the bandwidths and the keys are.
func TestNextByPriority(t *testing.T) {
	start := []Entry{entry(1, 1, 2, 5, 5), entry(2, 1, 1, 7, 7), entry(3, 1, 3, 4, 4), entry(4, 1, 2, 6, 6)}
	for bw, gone := range map[uint64][]api.Key{2: nil, 3: tunnels(2), 4: tunnels(2, 4), 5: tunnels(2, 4), 6: tunnels(1, 2, 4), 7: tunnels(1, 2, 4), 8: tunnels(1, 2, 3, 4), 10: tunnels(1, 2, 3, 4)} {
		admits(t, table(t, 10, start...), entry(9, 1, bw, 0, 0), gone...)
	}
	x := table(t, 10, start...)
	admits(t, x, entry(9, 1, 6, 4, 4), tunnels(1, 2, 4)...)
	has(t, x, 10, [8]uint64{4: 9}, entry(3, 1, 3, 4, 4), entry(9, 1, 6, 4, 4))
	refuses(t, table(t, 10, start...), entry(9, 1, 8, 4, 4), api.ErrRoom)
	// One that holds nothing of the bandwidth still goes first.
	x = table(t, 10, entry(1, 1, 0, 7, 7), entry(2, 1, 5, 6, 6), entry(3, 1, 5, 5, 5))
	admits(t, x, entry(9, 1, 1, 0, 0), tunnels(1, 2)...)
	has(t, x, 10, [8]uint64{0: 1, 5: 5}, entry(3, 1, 5, 5, 5), entry(9, 1, 1, 0, 0))
}

// Of the same priority, the greatest bandwidth goes first, whatever the keys are.
func TestNextByBandwidth(t *testing.T) {
	start := []Entry{entry(1, 1, 1, 5, 5), entry(2, 1, 4, 5, 5), entry(3, 1, 2, 5, 5), entry(4, 1, 3, 5, 5)}
	for bw, gone := range map[uint64][]api.Key{0: nil, 1: tunnels(2), 4: tunnels(2), 5: tunnels(2, 4), 7: tunnels(2, 4), 8: tunnels(2, 3, 4), 9: tunnels(2, 3, 4), 10: tunnels(1, 2, 3, 4)} {
		admits(t, table(t, 10, start...), entry(9, 1, bw, 0, 0), gone...)
		admits(t, table(t, 10, start...), entry(9, 1, bw, 4, 3), gone...)
	}
	// As numbers without a sign.
	x := table(t, most, entry(1, 1, half, 5, 5), entry(2, 1, half-1, 5, 5))
	admits(t, x, entry(3, 1, 1, 0, 0), key(1, 1))
}

// Of the same priority and bandwidth, the last key goes first.
func TestNextByKey(t *testing.T) {
	keys := []api.Key{{Head: 0, Tunnel: 8, Tail: 9, Lsp: 9}, {Head: 1, Tunnel: 2, Tail: 3, Lsp: 7}, {Head: 1, Tunnel: 2, Tail: 4, Lsp: 1}, {Head: 1, Tunnel: 3, Tail: 2, Lsp: 0}, {Head: 2, Tunnel: 0, Tail: 0, Lsp: 0}}
	next := mix(1)
	for range 50 {
		for n := range keys {
			x := New(10)
			shuffled := slices.Clone(keys)
			for i := range shuffled {
				j := next(i + 1)
				shuffled[i], shuffled[j] = shuffled[j], shuffled[i]
			}
			for _, k := range shuffled {
				admits(t, x, Entry{k, want(2, 5, 5)})
			}
			admits(t, x, Entry{api.Key{Head: 1, Lsp: 5}, want(2*uint64(n)+1, 3, 3)}, keys[len(keys)-1-n:]...)
		}
	}
}

// A family is as important as its most important path, and is preempted as a whole.
func TestPriorityOfFamily(t *testing.T) {
	for _, holds := range [][]int{{2, 7}, {7, 2}, {7, 2, 7}, {2, 2, 6}, {3, 2}} {
		var all []Entry
		var keys []api.Key
		for lsp, hold := range holds {
			all, keys = append(all, entry(1, lsp, 6, 7, hold)), append(keys, key(1, lsp))
		}
		for setup := range 8 {
			x := table(t, 10, all...)
			if e := entry(2, 1, 5, setup, 0); setup < 2 {
				admits(t, x, e, keys...)
				has(t, x, 10, [8]uint64{5}, e)
			} else {
				refuses(t, x, e, api.ErrRoom)
			}
		}
	}
	// Its priority counts for who is the next one, too.
	x := table(t, 10, entry(1, 1, 5, 7, 7), entry(1, 2, 1, 7, 3), entry(2, 1, 5, 7, 4))
	admits(t, x, entry(3, 1, 1, 0, 0), key(2, 1))
	admits(t, x, entry(4, 1, 6, 2, 2), key(1, 1), key(1, 2))
	// When the most important path is dropped, the others are less important.
	x = table(t, 10, entry(1, 1, 10, 7, 7), entry(1, 2, 10, 7, 2))
	refuses(t, x, entry(2, 1, 1, 5, 5), api.ErrRoom)
	drops(t, x, key(1, 2), api.OK)
	admits(t, x, entry(2, 1, 1, 5, 5), key(1, 1))
}

// The paths of a family share the greatest of their bandwidths.
func TestBandwidthOfFamily(t *testing.T) {
	x := table(t, 10, entry(1, 1, 6, 5, 5), entry(1, 2, 4, 5, 5), entry(1, 0, 6, 5, 5), entry(2, 1, 3, 5, 5), entry(2, 2, 4, 5, 5), entry(2, 0, 0, 5, 5))
	refuses(t, x, entry(3, 1, 1, 5, 5), api.ErrRoom)
	refuses(t, x, entry(1, 3, 7, 5, 5), api.ErrRoom)
	admits(t, x, entry(1, 3, 6, 5, 5))
	drops(t, x, key(2, 2), api.OK)
	admits(t, x, entry(1, 4, 7, 5, 5))
	has(t, x, 10, [8]uint64{5: 10}, entry(1, 0, 6, 5, 5), entry(1, 1, 6, 5, 5), entry(1, 2, 4, 5, 5), entry(1, 3, 6, 5, 5), entry(1, 4, 7, 5, 5), entry(2, 0, 0, 5, 5), entry(2, 1, 3, 5, 5))
	// Their greatest one counts for who is the next one, and not their sum.
	x = table(t, 10, entry(1, 1, 4, 5, 5), entry(1, 2, 4, 5, 5), entry(2, 1, 2, 5, 5), entry(2, 2, 5, 5, 5))
	admits(t, x, entry(3, 1, 2, 0, 0), key(2, 1), key(2, 2))
}

// The condition counts what a path shares with its kin, which it never preempts.
func TestKinStay(t *testing.T) {
	x := table(t, 10, entry(1, 1, 6, 7, 7), entry(2, 1, 4, 7, 6))
	refuses(t, x, entry(1, 2, 11, 0, 0), api.ErrRoom)
	admits(t, x, entry(1, 2, 6, 0, 0))
	refuses(t, x, entry(1, 3, 11, 0, 0), api.ErrRoom)
	admits(t, x, entry(1, 3, 7, 0, 0), key(2, 1))
	has(t, x, 10, [8]uint64{7}, entry(1, 1, 6, 7, 7), entry(1, 2, 6, 0, 0), entry(1, 3, 7, 0, 0))
	admits(t, x, entry(1, 4, 10, 7, 7))
	has(t, x, 10, [8]uint64{10}, entry(1, 1, 6, 7, 7), entry(1, 2, 6, 0, 0), entry(1, 3, 7, 0, 0), entry(1, 4, 10, 7, 7))
	refuses(t, x, entry(1, 5, 11, 0, 0), api.ErrRoom)
	// Those of which two numbers are the same are no kin.
	for _, k := range []api.Key{{Tail: 3, Tunnel: 1, Head: 1}, {Tail: 3, Tunnel: 2}, {Tail: 2, Tunnel: 1}} {
		x = table(t, 10, entry(1, 1, 6, 7, 7))
		refuses(t, x, Entry{k, want(6, 7, 7)}, api.ErrRoom)
		admits(t, x, Entry{k, want(6, 6, 6)}, key(1, 1))
	}
}

// A sum that is no 64-bit number is too much, even if size is the greatest one.
func TestGreatSums(t *testing.T) {
	for _, hold := range []int{4, 5} {
		x := table(t, most, entry(1, 1, half, 5, 5))
		refuses(t, x, entry(2, 1, half, 5, hold), api.ErrRoom)
		refuses(t, x, entry(2, 1, most, 5, hold), api.ErrRoom)
		admits(t, x, entry(2, 1, half-1, 5, hold))
		refuses(t, x, entry(3, 1, 1, 5, hold), api.ErrRoom)
		admits(t, x, entry(3, 1, 0, 5, hold))
	}
	x := table(t, most, entry(1, 1, half, 5, 5), entry(2, 1, half-1, 4, 4))
	admits(t, x, entry(3, 1, half, 3, 3), key(1, 1))
	admits(t, x, entry(4, 1, most, 2, 2), key(2, 1), key(3, 1))
	has(t, x, most, [8]uint64{2: most}, entry(4, 1, most, 2, 2))
	// The sum of three is 4 again, if it wraps round.
	x = table(t, most, entry(1, 1, half, 5, 5), entry(2, 1, 4, 0, 0))
	refuses(t, x, entry(3, 1, half, 5, 5), api.ErrRoom)
}

// One that is not valid is refused first, then one that holds something, then one too many.
func TestWhichError(t *testing.T) {
	x := table(t, 10, entry(1, 1, 4, 5, 5))
	for _, c := range [][2]int{{3, 5}, {0, 1}, {8, 7}, {8, 8}, {-1, -1}, {5, -1}, {-1, 0}, {math.MinInt, 0}, {0, math.MaxInt}, {1 << 32, 0}, {0, 1 << 32}, {math.MaxInt, math.MinInt}} {
		for _, bw := range []uint64{0, 1, 4, 7, most} {
			refuses(t, x, entry(1, 1, bw, c[0], c[1]), api.ErrArg)
			refuses(t, x, entry(2, 1, bw, c[0], c[1]), api.ErrArg)
		}
	}
	for _, e := range []Entry{entry(1, 1, 4, 5, 5), entry(1, 1, 2, 0, 0), entry(1, 1, 5, 7, 7), entry(1, 1, most, 7, 7)} {
		refuses(t, x, e, api.ErrHave)
	}
	for tunnel := 2; tunnel <= 64; tunnel++ {
		admits(t, x, entry(tunnel, 1, 0, 7, 7))
	}
	refuses(t, x, entry(64, 1, 0, 3, 5), api.ErrArg)
	refuses(t, x, entry(65, 1, 0, 3, 5), api.ErrArg)
	refuses(t, x, entry(64, 1, 0, 7, 7), api.ErrHave)
	refuses(t, x, entry(1, 1, most, 7, 7), api.ErrHave)
	for _, e := range []Entry{entry(65, 1, 0, 7, 7), entry(1, 2, 4, 5, 5), entry(65, 1, most, 0, 0), entry(65, 1, 10, 0, 0)} {
		refuses(t, x, e, api.ErrFull)
	}
	drops(t, x, key(7, 1), api.OK)
	refuses(t, x, entry(65, 1, 11, 0, 0), api.ErrRoom)
	admits(t, x, entry(65, 1, 0, 7, 7))
	refuses(t, x, entry(7, 1, 0, 7, 7), api.ErrFull)
}

// 64 paths of one family are as many as those of 64 families; what they are is left out of account.
func TestFull(t *testing.T) {
	x := New(10)
	for lsp := range 64 {
		admits(t, x, entry(1, lsp, 10, 7, 7))
	}
	refuses(t, x, entry(1, 64, 1, 0, 0), api.ErrFull)
	refuses(t, x, entry(2, 1, 1, 0, 0), api.ErrFull)
	drops(t, x, key(1, 0), api.OK)
	var gone []api.Key
	for lsp := 1; lsp < 64; lsp++ {
		gone = append(gone, key(1, lsp))
	}
	admits(t, x, entry(2, 1, 1, 0, 0), gone...)
	has(t, x, 10, [8]uint64{1}, entry(2, 1, 1, 0, 0))
}

// The groups of a Want are kept, and no more than that.
func TestGroupsAreKept(t *testing.T) {
	x := New(10)
	for i, w := range []api.Want{{Bw: 1, Setup: 5, Hold: 3, Any: 6, All: 1, None: 8}, {Bw: 2, Setup: 7, Any: math.MaxUint32, All: 2, None: 2}} {
		admits(t, x, Entry{key(1, i), w})
		if l := x.Entries(); l[i] != (Entry{key(1, i), w}) {
			t.Errorf("Entries: %v", l)
		}
	}
}

// P14.4

func TestDrop(t *testing.T) {
	x := table(t, 10, entry(1, 1, 6, 5, 5), entry(1, 2, 8, 5, 4), entry(2, 1, 2, 6, 6))
	has(t, x, 10, [8]uint64{4: 8, 6: 2}, entry(1, 1, 6, 5, 5), entry(1, 2, 8, 5, 4), entry(2, 1, 2, 6, 6))
	for _, k := range []api.Key{{}, key(1, 0), key(1, 3), key(2, 2), key(3, 1), {Tail: 2, Tunnel: 1, Lsp: 1}, {Tail: 3, Tunnel: 1, Head: 1, Lsp: 1}} {
		drops(t, x, k, api.ErrNone)
	}
	has(t, x, 10, [8]uint64{4: 8, 6: 2}, entry(1, 1, 6, 5, 5), entry(1, 2, 8, 5, 4), entry(2, 1, 2, 6, 6))
	// What is left of a family is held at what is left of its priorities.
	drops(t, x, key(1, 2), api.OK)
	has(t, x, 10, [8]uint64{5: 6, 6: 2}, entry(1, 1, 6, 5, 5), entry(2, 1, 2, 6, 6))
	drops(t, x, key(1, 2), api.ErrNone)
	admits(t, x, entry(1, 2, 1, 3, 3))
	has(t, x, 10, [8]uint64{3: 6, 6: 2}, entry(1, 1, 6, 5, 5), entry(1, 2, 1, 3, 3), entry(2, 1, 2, 6, 6))
	drops(t, x, key(1, 1), api.OK)
	has(t, x, 10, [8]uint64{3: 1, 6: 2}, entry(1, 2, 1, 3, 3), entry(2, 1, 2, 6, 6))
	drops(t, x, key(2, 1), api.OK)
	drops(t, x, key(1, 2), api.OK)
	has(t, x, 10, [8]uint64{})
	drops(t, x, key(1, 2), api.ErrNone)
	admits(t, x, entry(1, 1, 10, 7, 7))
}

// Whoever is preempted holds nothing, and may come back.
func TestDropOfPreempted(t *testing.T) {
	x := table(t, 10, entry(1, 1, 6, 5, 5), entry(1, 2, 6, 5, 5))
	admits(t, x, entry(2, 1, 5, 4, 4), key(1, 1), key(1, 2))
	drops(t, x, key(1, 1), api.ErrNone)
	drops(t, x, key(1, 2), api.ErrNone)
	admits(t, x, entry(1, 1, 5, 5, 5))
	drops(t, x, key(1, 2), api.ErrNone)
}

// P14.5

// Entries are in the order of keys, whatever the order in which they came.
func TestEntriesInOrder(t *testing.T) {
	next := mix(2)
	for range 200 {
		x, keys := New(0), map[api.Key]struct{}{}
		for range 64 {
			k := api.Key{Tail: next(3) - 1, Tunnel: next(3) - 1, Head: next(3) - 1, Lsp: next(4) - 1}
			if _, ok := keys[k]; !ok {
				admits(t, x, Entry{k, want(0, 7, next(8))})
				keys[k] = struct{}{}
			}
		}
		l := x.Entries()
		if len(l) != len(keys) {
			t.Fatalf("%d Entries, not %d", len(l), len(keys))
		}
		for i := 1; i < len(l); i++ {
			if !precedes(l[i-1].Key, l[i].Key) {
				t.Fatalf("Entries: %v before %v", l[i-1].Key, l[i].Key)
			}
		}
	}
}

// Those that are preempted are in the order of keys, and not in the order in which they go.
func TestPreemptedInOrder(t *testing.T) {
	x := New(13)
	for i, e := range []Entry{entry(5, 3, 3, 7, 5), entry(2, 4, 3, 7, 7), entry(5, 1, 3, 7, 6), entry(4, 1, 3, 7, 6), entry(2, 2, 1, 7, 7), entry(1, 9, 3, 7, 4)} {
		e.Key.Head = i % 2
		admits(t, x, e)
	}
	gone := []api.Key{{Tail: 3, Tunnel: 2, Head: 0, Lsp: 2}, {Tail: 3, Tunnel: 5, Head: 0, Lsp: 1}, {Tail: 3, Tunnel: 5, Head: 0, Lsp: 3}, {Tail: 3, Tunnel: 1, Head: 1, Lsp: 9}, {Tail: 3, Tunnel: 2, Head: 1, Lsp: 4}, {Tail: 3, Tunnel: 4, Head: 1, Lsp: 1}}
	refuses(t, x, entry(9, 1, 14, 0, 0), api.ErrRoom)
	admits(t, x, entry(9, 1, 13, 0, 0), gone...)
}

func TestLedgerOfFamilies(t *testing.T) {
	x := table(t, 100, entry(1, 1, 6, 5, 5), entry(2, 1, 7, 5, 5), entry(3, 1, 1, 7, 0), entry(3, 2, 9, 7, 7), entry(4, 1, 2, 7, 7), entry(5, 1, 0, 3, 2), entry(6, 1, 4, 2, 2), entry(6, 2, 3, 2, 1))
	if b := x.Ledger(); b != (ledger.Ledger{Cap: 100, Held: [8]uint64{0: 9, 1: 4, 5: 13, 7: 2}}) {
		t.Errorf("Ledger: %v", b)
	}
	for p := range 8 {
		held := [8]uint64{}
		held[p] = 3
		has(t, table(t, 5, entry(1, 1, 3, 7, p)), 5, held, entry(1, 1, 3, 7, p))
	}
}

func TestCopy(t *testing.T) {
	x := table(t, 10, entry(1, 1, 4, 5, 5), entry(2, 1, 3, 5, 5), entry(3, 1, 1, 5, 5))
	y := x.Copy()
	has(t, y, 10, [8]uint64{5: 8}, x.Entries()...)
	drops(t, x, key(1, 1), api.OK)
	has(t, y, 10, [8]uint64{5: 8}, entry(1, 1, 4, 5, 5), entry(2, 1, 3, 5, 5), entry(3, 1, 1, 5, 5))
	admits(t, y, entry(0, 1, 2, 3, 3))
	admits(t, y, entry(0, 2, 5, 3, 3), key(1, 1))
	has(t, x, 10, [8]uint64{5: 4}, entry(2, 1, 3, 5, 5), entry(3, 1, 1, 5, 5))
	has(t, y, 10, [8]uint64{3: 5, 5: 4}, entry(0, 1, 2, 3, 3), entry(0, 2, 5, 3, 3), entry(2, 1, 3, 5, 5), entry(3, 1, 1, 5, 5))
	z := y.Copy()
	admits(t, z, entry(9, 1, 10, 0, 0), key(0, 1), key(0, 2), key(2, 1), key(3, 1))
	has(t, y, 10, [8]uint64{3: 5, 5: 4}, entry(0, 1, 2, 3, 3), entry(0, 2, 5, 3, 3), entry(2, 1, 3, 5, 5), entry(3, 1, 1, 5, 5))
	// One of an empty table is created, too.
	for _, size := range []uint64{0, 10} {
		empty := New(size).Copy()
		has(t, empty, size, [8]uint64{})
		admits(t, empty, entry(1, 1, size, 5, 5))
	}
}

// R6

func TestResultsAreNew(t *testing.T) {
	x := table(t, 10, entry(1, 1, 4, 5, 5), entry(2, 1, 3, 5, 5))
	l := x.Entries()
	l[0], l[1] = Entry{}, Entry{}
	_ = append(l[:1], entry(7, 7, 7, 7, 7))
	b := x.Ledger()
	b.Held[5], b.Cap = 1, 1
	has(t, x, 10, [8]uint64{5: 7}, entry(1, 1, 4, 5, 5), entry(2, 1, 3, 5, 5))
	before := x.Entries()
	drops(t, x, key(1, 1), api.OK)
	admits(t, x, entry(0, 1, 1, 5, 5))
	if !slices.Equal(before, []Entry{entry(1, 1, 4, 5, 5), entry(2, 1, 3, 5, 5)}) {
		t.Errorf("the Entries from before are %v now", before)
	}
	gone, e := x.Admit(key(3, 1), want(10, 0, 0))
	if e != api.OK || len(gone) != 2 {
		t.Fatalf("Admit: %v, %d", gone, e)
	}
	gone[0], gone[1] = key(3, 1), api.Key{}
	has(t, x, 10, [8]uint64{10}, entry(3, 1, 10, 0, 0))
}

// P14.3 to P14.8, over many calls

// tries are many calls of tables of many sizes; each is told with the table before and after it.
func tries(seed uint64, tell func(before, after *Table, e Entry, gone []api.Key, err api.Errno)) {
	next := mix(seed)
	for round := range 600 {
		size := []uint64{0, 1, 10, 100, 1 << 40, half, most}[round%7]
		x := New(size)
		for range 150 {
			before := x.Copy()
			if l := x.Entries(); next(5) == 0 && len(l) > 0 {
				x.Drop(l[next(len(l))].Key)
				continue
			}
			e := random(next, size, 2+round%9)
			gone, err := x.Admit(e.Key, e.Want)
			tell(before, x, e, gone, err)
		}
	}
}

// random is an entry that is mostly valid, of one of some tunnels.
func random(next func(n int) int, size uint64, tunnels int) Entry {
	k := api.Key{Tail: next(2), Tunnel: next(tunnels), Head: next(2), Lsp: next(4)}
	w := api.Want{Bw: uint64(next(4)), Setup: next(8), Any: uint32(next(2))}
	w.Hold = next(w.Setup + 1)
	if next(3) == 0 {
		w.Setup, w.Hold = 7, 7-next(3)
	}
	switch part := size / uint64(1+next(12)); next(8) {
	case 0:
		w.Bw = most - uint64(next(3))
	case 1, 2:
		w.Bw = part
	case 3:
		w.Bw = part/2 + 1
	case 4:
		w.Bw = size / 2
	case 5:
		w.Bw = size/3 + uint64(next(3))
	}
	if next(40) == 0 {
		w.Hold = w.Setup + 1
	}
	return Entry{k, w}
}

func TestManyCalls(t *testing.T) {
	next := mix(3)
	seen := map[api.Errno]int{}
	preempted := map[int]int{}
	for round := range 700 {
		size := []uint64{0, 1, 10, 100, 1 << 40, half, most}[round%7]
		x, m := New(size), &model{size, map[name]map[int]api.Want{}}
		for range 150 {
			e := random(next, size, 1+round%30)
			switch {
			case next(6) == 0:
				err := m.drop(e.Key)
				drops(t, x, e.Key, err)
				seen[err]++
			case round%5 == 0 && next(5) > 0: // so that 64 paths come together
				e.Want.Bw, e.Want.Setup = 0, 7
				fallthrough
			default:
				gone, err := m.admit(e.Key, e.Want)
				if err == api.OK {
					admits(t, x, e, gone...)
					preempted[min(len(gone), 4)]++
				} else {
					refuses(t, x, e, err)
				}
				seen[err]++
			}
			has(t, x, size, m.held(), m.entries()...)
		}
	}
	for _, e := range []api.Errno{api.OK, api.ErrArg, api.ErrHave, api.ErrFull, api.ErrNone, api.ErrRoom} {
		if seen[e] < 500 {
			t.Errorf("the error %d %d times", e, seen[e])
		}
	}
	for n := range 5 {
		if preempted[n] < 100 {
			t.Errorf("%d paths preempted %d times", n, preempted[n])
		}
	}
}

// P14.6

func TestNeverTooMuch(t *testing.T) {
	full := 0
	tries(4, func(_, after *Table, e Entry, _ []api.Key, _ api.Errno) {
		b := after.Ledger()
		if !ledger.Right(b) {
			t.Fatalf("after %v: the ledger %v isn't valid", e, b)
		}
		if b.Held != modelOf(after).held() {
			t.Fatalf("after %v: the ledger %v isn't that of %v", e, b, after.Entries())
		}
		if sum, _ := ledger.Sum(b); sum == b.Cap {
			full++
		}
	})
	if full < 1000 {
		t.Errorf("all held %d times", full)
	}
}

// P14.7

func TestWhyPreempted(t *testing.T) {
	times := 0
	tries(5, func(before, after *Table, e Entry, gone []api.Key, err api.Errno) {
		if err != api.OK || len(gone) == 0 {
			return
		}
		times++
		m := modelOf(before)
		for _, k := range gone {
			if w, ok := m.of[nameOf(k)][k.Lsp]; !ok || Kin(k, e.Key) || w.Hold <= e.Want.Setup {
				t.Fatalf("%v is preempted by %v", k, e)
			}
		}
		// With the family that was the last one to go, there was not enough.
		var last name
		for _, s := range m.shares(e) {
			if slices.ContainsFunc(gone, func(k api.Key) bool { return nameOf(k) == s.name }) {
				last = s.name
			}
		}
		for _, k := range gone {
			if nameOf(k) != last {
				m.drop(k)
			}
		}
		if m.fits(m.shares(e)) {
			t.Fatalf("%v are preempted by %v, without need", gone, e)
		}
		if !slices.Contains(after.Entries(), e) {
			t.Fatalf("%v isn't held", e)
		}
	})
	if times < 1000 {
		t.Errorf("paths preempted %d times", times)
	}
}

// P14.8

func TestWhyRefused(t *testing.T) {
	refused, some := 0, 0
	tries(6, func(before, _ *Table, e Entry, _ []api.Key, err api.Errno) {
		if err != api.ErrRoom {
			return
		}
		refused++
		m := modelOf(before)
		var stay []share
		for _, s := range m.shares(e) {
			if s.name == nameOf(e.Key) || s.priority <= e.Want.Setup {
				stay = append(stay, s)
			} else {
				some++
			}
		}
		if m.fits(stay) {
			t.Fatalf("%v is refused, by %v", e, before.Entries())
		}
	})
	if refused < 1000 || some < 1000 {
		t.Errorf("%d refused, %d preemptible", refused, some)
	}
}
