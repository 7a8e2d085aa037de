package lfib

import (
	"maps"
	"math"
	"slices"
	"strings"
	"testing"

	"viaduct/api"
)

type stack = []api.Entry

// mix answers numbers without an order to be seen, the same in every run.
func mix(seed uint64) func(n int) int {
	return func(n int) int {
		seed = seed*6364136223846793005 + 1442695040888963407
		return int(((seed ^ seed>>29) >> 8) % uint64(n))
	}
}

func entry(label, class, ttl int) api.Entry {
	return api.Entry{Label: label, Class: class, Ttl: ttl}
}

// newTable is New where it must not fail.
func newTable(t *testing.T, most int) *Table {
	t.Helper()
	l := New(most)
	if l == nil {
		t.Fatalf("New(%d) is nil", most)
	}
	return l
}

// want asks for an error's number.
func want(t *testing.T, got, want api.Errno) {
	t.Helper()
	if got != want {
		t.Fatalf("%d, not %d", got, want)
	}
}

// check asks for the entries of both tables.
func check(t *testing.T, l *Table, labels, tunnels []Row) {
	t.Helper()
	if g := l.Labels(); !slices.Equal(g, labels) {
		t.Fatalf("Labels = %v, not %v", g, labels)
	}
	if g := l.Tunnels(); !slices.Equal(g, tunnels) {
		t.Fatalf("Tunnels = %v, not %v", g, tunnels)
	}
}

// side is one of the two tables, with the calls that belong to it.
type side struct {
	name      string
	low, high int
	set       func(l *Table, in int, o Out) api.Errno
	remove    func(l *Table, in int) api.Errno
	rows      func(l *Table) []Row
	another   func(l *Table) []Row
}

func sides() []side {
	return []side{
		{"labels", 16, 1<<20 - 1, (*Table).Bind, (*Table).Free, (*Table).Labels, (*Table).Tunnels},
		{"tunnels", 1, 65535, (*Table).Map, (*Table).Unmap, (*Table).Tunnels, (*Table).Labels},
	}
}

// check asks for the entries of one table, and that the other one has none.
func (s side) check(t *testing.T, l *Table, rows ...Row) {
	t.Helper()
	if g := s.rows(l); !slices.Equal(g, rows) {
		t.Fatalf("%s = %v, not %v", s.name, g, rows)
	}
	if g := s.another(l); len(g) != 0 {
		t.Fatalf("beside the %s: %v", s.name, g)
	}
}

func samePacket(a, b api.Packet) bool {
	return slices.Equal(a.Stack, b.Stack) && a.Tunnel == b.Tunnel && a.Ttl == b.Ttl && a.Payload == b.Payload
}

// step asks for a node and a packet.
func step(t *testing.T, l *Table, p api.Packet, next int, after api.Packet) {
	t.Helper()
	n, g, e := l.Step(p)
	if n != next || !samePacket(g, after) || e != api.OK {
		t.Fatalf("Step(%v) = %d, %v, %d, not %d, %v", p, n, g, e, next, after)
	}
}

// noStep asks for an error, without anything beside it.
func noStep(t *testing.T, l *Table, p api.Packet, want api.Errno) {
	t.Helper()
	n, g, e := l.Step(p)
	if n != 0 || !samePacket(g, api.Packet{}) || e != want {
		t.Fatalf("Step(%v) = %d, %v, %d, not the error %d", p, n, g, e, want)
	}
}

// validOuts: at the edges of what they may be, and between them.
func validOuts() []Out {
	var all []Out
	for _, next := range []int{0, 1, 7, 15} {
		for _, label := range []int{3, 16, 17, 65536, 1<<20 - 1} {
			all = append(all, Out{Next: next, Label: label})
		}
	}
	return all
}

// invalidOuts: of which one part, or both, may not be.
func invalidOuts() []Out {
	all := []Out{{-1, -1}, {16, 4}, {math.MinInt, math.MaxInt}}
	for _, next := range []int{-1, math.MinInt, 16, 17, math.MaxInt} {
		all = append(all, Out{next, 16}, Out{next, 3})
	}
	for _, label := range []int{math.MinInt, -1, 0, 1, 2, 4, 15, 1 << 20, 1<<20 + 3, 1<<20 + 16, math.MaxInt} {
		all = append(all, Out{0, label}, Out{15, label})
	}
	return all
}

// wired is the table of the chapter's example, with ends of paths that pop.
func wired(t *testing.T) *Table {
	t.Helper()
	l := newTable(t, 8)
	want(t, l.Map(7, Out{2, 16}), api.OK)
	want(t, l.Map(8, Out{5, 3}), api.OK)
	want(t, l.Map(65535, Out{0, 1<<20 - 1}), api.OK)
	want(t, l.Bind(16, Out{3, 17}), api.OK)
	want(t, l.Bind(17, Out{4, 3}), api.OK)
	want(t, l.Bind(1<<20-1, Out{15, 16}), api.OK)
	return l
}

// P5.1

func TestNew(t *testing.T) {
	for most := 1; most <= 64; most++ {
		check(t, newTable(t, most), nil, nil)
	}
	for _, most := range []int{math.MinInt, -64, -1, 0, 65, 66, 128, 1 << 32, math.MaxInt} {
		if New(most) != nil {
			t.Errorf("New(%d) is a table", most)
		}
	}
}

func TestTablesAreApart(t *testing.T) {
	one, two := newTable(t, 2), newTable(t, 2)
	want(t, one.Bind(16, Out{1, 17}), api.OK)
	want(t, one.Map(7, Out{1, 18}), api.OK)
	check(t, two, nil, nil)
	want(t, two.Free(16), api.ErrNone)
	want(t, two.Unmap(7), api.ErrNone)
	noStep(t, two, api.Packet{Tunnel: 7, Ttl: 9}, api.ErrNone)
	noStep(t, two, api.Packet{Stack: stack{entry(16, 0, 9)}}, api.ErrLabel)
	check(t, one, []Row{{16, Out{1, 17}}}, []Row{{7, Out{1, 18}}})
}

// R7: twice, as a call that fails must not make a table of it.
func TestUnmade(t *testing.T) {
	for _, l := range []*Table{nil, {}} {
		for range 2 {
			for _, s := range sides() {
				for _, in := range []int{-1, 0, 1, 16, 1 << 20} {
					want(t, s.set(l, in, Out{1, 16}), api.ErrNil)
					want(t, s.set(l, in, Out{-1, 0}), api.ErrNil)
					want(t, s.remove(l, in), api.ErrNil)
				}
			}
			check(t, l, nil, nil)
			noStep(t, l, api.Packet{}, api.ErrNil)
			noStep(t, l, api.Packet{Tunnel: 7, Ttl: 9}, api.ErrNil)
			noStep(t, l, api.Packet{Ttl: 256}, api.ErrNil)
			noStep(t, l, api.Packet{Stack: stack{entry(16, 0, 9)}}, api.ErrNil)
		}
	}
}

// P5.2

func TestSet(t *testing.T) {
	for _, s := range sides() {
		for _, in := range []int{s.low, s.low + 1, 100, s.high - 1, s.high} {
			l := newTable(t, 1)
			for _, o := range validOuts() {
				want(t, s.set(l, in, o), api.OK)
				s.check(t, l, Row{in, o})
			}
			want(t, s.remove(l, in), api.OK)
			s.check(t, l)
			want(t, s.remove(l, in), api.ErrNone)
		}
	}
}

func TestSetWrong(t *testing.T) {
	for _, s := range sides() {
		l := newTable(t, 1)
		for range 2 {
			before := s.rows(l)
			for _, in := range []int{math.MinInt, -s.high, -16, -1, 0, s.low - 1, s.high + 1, s.high + 1 + s.low, 1 << 32, 1<<32 + 16, math.MaxInt} {
				want(t, s.set(l, in, Out{1, 16}), api.ErrArg)
				want(t, s.set(l, in, Out{-1, 4}), api.ErrArg)
			}
			for _, o := range invalidOuts() {
				want(t, s.set(l, 16, o), api.ErrArg)
				want(t, s.set(l, 100, o), api.ErrArg)
			}
			s.check(t, l, before...)
			// The second time the table is full, and the arguments are named first all the same.
			want(t, s.set(l, 100, Out{2, 3}), api.OK)
		}
		s.check(t, l, Row{100, Out{2, 3}})
	}
}

func TestFull(t *testing.T) {
	for _, s := range sides() {
		for most := 1; most <= 64; most++ {
			l := newTable(t, most)
			var rows []Row
			for i := range most {
				r := Row{20 + i, Out{i % 16, 16 + i}}
				want(t, s.set(l, r.In, r.Out), api.OK)
				rows = append(rows, r)
			}
			want(t, s.set(l, 19, Out{1, 3}), api.ErrFull)
			want(t, s.set(l, 20+most, Out{1, 3}), api.ErrFull)
			s.check(t, l, rows...)
			// One that has an Out is replaced, also then.
			rows[most/2].Out = Out{15, 3}
			want(t, s.set(l, 20+most/2, Out{15, 3}), api.OK)
			s.check(t, l, rows...)
			// A removed one makes room for one other.
			want(t, s.remove(l, 20), api.OK)
			want(t, s.set(l, 1000, Out{1, 3}), api.OK)
			want(t, s.set(l, 20, Out{1, 3}), api.ErrFull)
			s.check(t, l, append(rows[1:], Row{1000, Out{1, 3}})...)
		}
	}
}

func TestRemoveOfNone(t *testing.T) {
	for _, s := range sides() {
		l := newTable(t, 3)
		want(t, s.remove(l, 16), api.ErrNone)
		want(t, s.set(l, 16, Out{1, 17}), api.OK)
		want(t, s.set(l, 50, Out{2, 18}), api.OK)
		want(t, s.remove(l, 50), api.OK)
		// What may have no Out has none: there is no other error for it.
		for _, in := range []int{math.MinInt, -1, 0, 3, 15, 17, 18, 49, 50, 51, s.low - 1, s.high, s.high + 1, math.MaxInt} {
			want(t, s.remove(l, in), api.ErrNone)
			s.check(t, l, Row{16, Out{1, 17}})
		}
	}
}

// P5.3

func TestRowsRise(t *testing.T) {
	next := mix(1)
	for _, s := range sides() {
		l := newTable(t, 64)
		kept := map[int]Out{}
		for len(kept) < 64 {
			in, o := s.low+next(s.high-s.low+1), Out{next(16), 16 + next(1000)}
			want(t, s.set(l, in, o), api.OK)
			kept[in] = o
		}
		rows := s.rows(l)
		if len(rows) != 64 {
			t.Fatalf("%d %s", len(rows), s.name)
		}
		for i, r := range rows {
			if i > 0 && rows[i-1].In >= r.In {
				t.Fatalf("%v after %v", r, rows[i-1])
			}
			if o, ok := kept[r.In]; !ok || o != r.Out {
				t.Fatalf("%v, not %v", r, o)
			}
		}
	}
}

// R6
func TestRowsAreNew(t *testing.T) {
	for _, s := range sides() {
		l := newTable(t, 3)
		want(t, s.set(l, 16, Out{1, 17}), api.OK)
		want(t, s.set(l, 17, Out{2, 18}), api.OK)
		rows := s.rows(l)
		clear(rows[:cap(rows)])
		s.check(t, l, Row{16, Out{1, 17}}, Row{17, Out{2, 18}})
		rows = s.rows(l)
		want(t, s.set(l, 16, Out{3, 3}), api.OK)
		want(t, s.remove(l, 17), api.OK)
		if !slices.Equal(rows, []Row{{16, Out{1, 17}}, {17, Out{2, 18}}}) {
			t.Errorf("a change of the table changed what it returned: %v", rows)
		}
	}
}

// P5.4

func TestExample(t *testing.T) {
	l := newTable(t, 2)
	want(t, l.Map(7, Out{2, 16}), api.OK)
	want(t, l.Bind(16, Out{3, 17}), api.OK)
	want(t, l.Bind(17, Out{4, 3}), api.OK)
	step(t, l, api.Packet{Tunnel: 7, Ttl: 9}, 2, api.Packet{Stack: stack{entry(16, 0, 8)}, Tunnel: 7, Ttl: 8})
	step(t, l, api.Packet{Stack: stack{entry(16, 0, 8)}, Tunnel: 7, Ttl: 8}, 3, api.Packet{Stack: stack{entry(17, 0, 7)}, Tunnel: 7, Ttl: 8})
	step(t, l, api.Packet{Stack: stack{entry(17, 0, 7)}, Tunnel: 7, Ttl: 8}, 4, api.Packet{Tunnel: 7, Ttl: 6})
	noStep(t, l, api.Packet{Stack: stack{entry(18, 0, 1)}}, api.ErrLabel)
	noStep(t, l, api.Packet{Stack: stack{entry(16, 0, 0)}}, api.ErrTtl)
	want(t, l.Bind(15, Out{1, 16}), api.ErrArg)
}

func TestBegin(t *testing.T) {
	l := wired(t)
	most := strings.Repeat("x", 4096)
	for _, c := range []struct {
		p     api.Packet
		next  int
		after api.Packet
	}{
		{api.Packet{Tunnel: 7, Ttl: 255, Payload: most}, 2, api.Packet{Stack: stack{entry(16, 0, 254)}, Tunnel: 7, Ttl: 254, Payload: most}},
		{api.Packet{Tunnel: 7, Ttl: 1}, 2, api.Packet{Stack: stack{entry(16, 0, 0)}, Tunnel: 7}},
		{api.Packet{Stack: stack{}, Tunnel: 7, Ttl: 64, Payload: "abc"}, 2, api.Packet{Stack: stack{entry(16, 0, 63)}, Tunnel: 7, Ttl: 63, Payload: "abc"}},
		{api.Packet{Tunnel: 8, Ttl: 255, Payload: "abc"}, 5, api.Packet{Tunnel: 8, Ttl: 254, Payload: "abc"}},
		{api.Packet{Tunnel: 8, Ttl: 1}, 5, api.Packet{Tunnel: 8}},
		{api.Packet{Tunnel: 65535, Ttl: 2}, 0, api.Packet{Stack: stack{entry(1<<20-1, 0, 1)}, Tunnel: 65535, Ttl: 1}},
	} {
		step(t, l, c.p, c.next, c.after)
	}
}

func TestBeginNot(t *testing.T) {
	l := wired(t)
	// Any number may be a packet's Tunnel, and the tunnel is named before the Ttl.
	for _, n := range []int{math.MinInt, -7, -1, 0, 1, 6, 9, 16, 17, 65534, 65536, 65536 + 7, 1<<20 - 1, 1<<32 + 7, math.MaxInt} {
		for _, ttl := range []int{0, 1, 255} {
			noStep(t, l, api.Packet{Tunnel: n, Ttl: ttl}, api.ErrNone)
		}
	}
	for _, n := range []int{7, 8, 65535} {
		noStep(t, l, api.Packet{Tunnel: n}, api.ErrTtl)
		noStep(t, l, api.Packet{Stack: stack{}, Tunnel: n, Payload: "x"}, api.ErrTtl)
	}
}

// Of the first entry only its label and Ttl change, and nothing else of the packet.
func TestSwap(t *testing.T) {
	l := wired(t)
	for _, c := range []struct{ before, after stack }{
		{stack{entry(16, 0, 8)}, stack{entry(17, 0, 7)}},
		{stack{entry(16, 7, 255)}, stack{entry(17, 7, 254)}},
		{stack{entry(16, 5, 1)}, stack{entry(17, 5, 0)}},
		{stack{entry(16, 1, 200), entry(17, 2, 255), entry(16, 3, 0)}, stack{entry(17, 1, 199), entry(17, 2, 255), entry(16, 3, 0)}},
		{append(stack{entry(16, 1, 3)}, slices.Repeat(stack{entry(99, 2, 4)}, 7)...), append(stack{entry(17, 1, 2)}, slices.Repeat(stack{entry(99, 2, 4)}, 7)...)},
	} {
		for _, ttl := range []int{0, 1, 7, 255} {
			for _, tunnel := range []int{-1, 0, 7, 8} {
				step(t, l, api.Packet{Stack: c.before, Tunnel: tunnel, Ttl: ttl, Payload: "p"}, 3, api.Packet{Stack: c.after, Tunnel: tunnel, Ttl: ttl, Payload: "p"})
			}
		}
	}
	step(t, l, api.Packet{Stack: stack{entry(1<<20-1, 4, 9)}}, 15, api.Packet{Stack: stack{entry(16, 4, 8)}})
}

// The Ttl below becomes that of the removed entry less one only if it is greater.
func TestPop(t *testing.T) {
	l := wired(t)
	for _, top := range []int{1, 2, 6, 100, 254, 255} {
		for _, below := range []int{0, 1, 2, 5, 6, 7, 99, 100, 101, 253, 254, 255} {
			after := below
			if below > top-1 {
				after = top - 1
			}
			step(t, l, api.Packet{Stack: stack{entry(17, 5, top)}, Tunnel: 8, Ttl: below, Payload: "p"}, 4,
				api.Packet{Tunnel: 8, Ttl: after, Payload: "p"})
			// Under another entry the packet's own Ttl stays, and the entries below the next one do too.
			step(t, l, api.Packet{Stack: stack{entry(17, 5, top), entry(98, 6, below), entry(97, 7, 255)}, Tunnel: 8, Ttl: 255, Payload: "p"}, 4,
				api.Packet{Stack: stack{entry(98, 6, after), entry(97, 7, 255)}, Tunnel: 8, Ttl: 255, Payload: "p"})
		}
	}
	// A full stack; the label below need not be bound, nor be bindable.
	step(t, l, api.Packet{Stack: append(stack{entry(17, 0, 9)}, slices.Repeat(stack{entry(0, 0, 255)}, 7)...)}, 4,
		api.Packet{Stack: append(stack{entry(0, 0, 8)}, slices.Repeat(stack{entry(0, 0, 255)}, 6)...)})
}

func TestForwardNot(t *testing.T) {
	l := wired(t)
	// The label is named before the Ttl; that of a tunnel is none of a label's, and the second entry doesn't help.
	for _, label := range []int{0, 3, 7, 8, 15, 18, 65535, 1<<20 - 2} {
		for _, ttl := range []int{0, 1, 255} {
			noStep(t, l, api.Packet{Stack: stack{entry(label, 0, ttl)}, Tunnel: 7, Ttl: 9}, api.ErrLabel)
			noStep(t, l, api.Packet{Stack: stack{entry(label, 0, ttl), entry(16, 0, 9)}, Tunnel: 7, Ttl: 9}, api.ErrLabel)
		}
	}
	for _, label := range []int{16, 17, 1<<20 - 1} {
		noStep(t, l, api.Packet{Stack: stack{entry(label, 0, 0)}, Tunnel: 7, Ttl: 9}, api.ErrTtl)
		noStep(t, l, api.Packet{Stack: stack{entry(label, 0, 0), entry(16, 0, 9)}, Tunnel: 7, Ttl: 9}, api.ErrTtl)
	}
}

func TestStepInvalid(t *testing.T) {
	l := wired(t)
	// Each of them for a packet that would go on otherwise, and for one that would not.
	for _, tunnel := range []int{7, 9} {
		for _, label := range []int{16, 17, 18} {
			good := api.Packet{Stack: stack{entry(label, 0, 9)}, Tunnel: tunnel, Ttl: 9}
			bare := api.Packet{Tunnel: tunnel, Ttl: 9}
			for _, p := range []api.Packet{good, bare} {
				for _, ttl := range []int{math.MinInt, -1, 256, math.MaxInt} {
					bad := p
					bad.Ttl = ttl
					noStep(t, l, bad, api.ErrArg)
				}
				for _, n := range []int{4097, 5000, 1 << 20} {
					bad := p
					bad.Payload = strings.Repeat("x", n)
					noStep(t, l, bad, api.ErrArg)
				}
			}
			for _, n := range []int{9, 10, 1000} {
				bad := good
				bad.Stack = slices.Repeat(good.Stack, n)
				noStep(t, l, bad, api.ErrArg)
			}
		}
	}
}

func TestStepInvalidEntry(t *testing.T) {
	l := wired(t)
	wrong := stack{
		entry(-1, 0, 9), entry(1<<20, 0, 9), entry(1<<32+16, 0, 9), entry(16, -1, 9), entry(16, 8, 9), entry(16, 0, -1), entry(16, 0, 256),
		entry(17, 8, 0), entry(18, 0, 256), entry(math.MinInt, math.MinInt, math.MinInt),
	}
	for _, bad := range wrong {
		for n := 1; n <= 8; n++ {
			for at := range n {
				p := api.Packet{Stack: slices.Repeat(stack{entry(16, 0, 9)}, n), Tunnel: 7, Ttl: 9}
				p.Stack[at] = bad
				noStep(t, l, p, api.ErrArg)
			}
		}
	}
}

// R5: a step, whether it fails or not, leaves the table as it is.
func TestStepChangesNothing(t *testing.T) {
	l := wired(t)
	labels, tunnels := l.Labels(), l.Tunnels()
	for range 3 {
		l.Step(api.Packet{Tunnel: 7, Ttl: 9})
		l.Step(api.Packet{Tunnel: 9, Ttl: 9})
		l.Step(api.Packet{Tunnel: 7})
		l.Step(api.Packet{Stack: stack{entry(17, 0, 9)}})
		l.Step(api.Packet{Stack: stack{entry(18, 0, 9)}})
		l.Step(api.Packet{Ttl: -1})
		check(t, l, labels, tunnels)
	}
}

// R6

func TestPacketStays(t *testing.T) {
	l := wired(t)
	for _, label := range []int{16, 17, 18} {
		for n := range 8 {
			room := slices.Repeat(stack{entry(label, 1, 200)}, 8)
			before := slices.Clone(room)
			_, p, _ := l.Step(api.Packet{Stack: room[:n], Tunnel: 7, Ttl: 9})
			if !slices.Equal(room, before) {
				t.Fatalf("Step made %v of %v", room, before)
			}
			clear(p.Stack[:cap(p.Stack)])
			if !slices.Equal(room, before) {
				t.Fatal("a change of the result changed the argument")
			}
			_, p, _ = l.Step(api.Packet{Stack: room[:n], Tunnel: 7, Ttl: 9})
			after := slices.Clone(p.Stack)
			clear(room)
			if !slices.Equal(p.Stack, after) {
				t.Fatal("a change of the argument changed the result")
			}
		}
	}
}

// An empty stack that has memory behind it stays the caller's alone, if no entry is pushed either.
func TestEmptyStackIsNew(t *testing.T) {
	l := wired(t)
	room := stack{entry(50, 1, 2), entry(51, 1, 2)}
	_, p, e := l.Step(api.Packet{Stack: room[:0], Tunnel: 8, Ttl: 9})
	want(t, e, api.OK)
	clear(p.Stack[:cap(p.Stack)])
	if room[0] != entry(50, 1, 2) {
		t.Errorf("a change of the result changed the argument: %v", room)
	}
}

// model is the table by another way: a step is told field by field.
type model struct {
	most            int
	labels, tunnels map[int]Out
}

func (m *model) set(of map[int]Out, in int, o Out) api.Errno {
	if _, ok := of[in]; !ok && len(of) == m.most {
		return api.ErrFull
	}
	of[in] = o
	return api.OK
}

func (m *model) remove(of map[int]Out, in int) api.Errno {
	if _, ok := of[in]; !ok {
		return api.ErrNone
	}
	delete(of, in)
	return api.OK
}

func sorted(of map[int]Out) []Row {
	var rows []Row
	for _, in := range slices.Sorted(maps.Keys(of)) {
		rows = append(rows, Row{in, of[in]})
	}
	return rows
}

// alive is the time that a packet has left.
func alive(p api.Packet) int {
	if len(p.Stack) > 0 {
		return p.Stack[0].Ttl
	}
	return p.Ttl
}

// randomPacket: valid, with labels and tunnels of which some have an Out.
func randomPacket(next func(int) int) api.Packet {
	p := api.Packet{Tunnel: 14 + next(14), Ttl: next(256), Payload: strings.Repeat("y", next(4))}
	for range next(9) {
		p.Stack = append(p.Stack, entry(14+next(14), next(8), next(256)))
	}
	if next(8) == 0 {
		p.Ttl = 0
	}
	return p
}

// step says what a step must answer.
func (m *model) step(p api.Packet) (int, api.Packet, api.Errno) {
	none, of, in := api.ErrNone, m.tunnels, p.Tunnel
	if len(p.Stack) > 0 {
		none, of, in = api.ErrLabel, m.labels, p.Stack[0].Label
	}
	o, ok := of[in]
	if !ok {
		return 0, api.Packet{}, none
	}
	if alive(p) == 0 {
		return 0, api.Packet{}, api.ErrTtl
	}
	left := alive(p) - 1
	q := api.Packet{Tunnel: p.Tunnel, Ttl: p.Ttl, Payload: p.Payload}
	class, below := 0, p.Stack
	if len(p.Stack) > 0 {
		class, below = p.Stack[0].Class, p.Stack[1:]
	} else {
		q.Ttl = left
	}
	if o.Label != 3 {
		q.Stack = append(stack{entry(o.Label, class, left)}, below...)
		return o.Next, q, api.OK
	}
	q.Stack = slices.Clone(below)
	if len(q.Stack) > 0 && q.Stack[0].Ttl > left {
		q.Stack[0].Ttl = left
	}
	if len(q.Stack) == 0 && q.Ttl > left {
		q.Ttl = left
	}
	return o.Next, q, api.OK
}

// P5.2 to P5.6 over many calls in any order: labels and tunnels share numbers, so that one table would show in the other.

func TestManyCalls(t *testing.T) {
	next := mix(2)
	steps := map[api.Errno]int{}
	for range 200 {
		most := 1 + next(8)
		l := newTable(t, most)
		m := &model{most: most, labels: map[int]Out{}, tunnels: map[int]Out{}}
		for range 150 {
			in, o := 16+next(10), Out{next(16), 16 + next(10)}
			if next(3) == 0 {
				o.Label = 3
			}
			switch next(8) {
			case 0, 1:
				want(t, l.Bind(in, o), m.set(m.labels, in, o))
			case 2, 3:
				want(t, l.Map(in, o), m.set(m.tunnels, in, o))
			case 4:
				want(t, l.Free(in), m.remove(m.labels, in))
			case 5:
				want(t, l.Unmap(in), m.remove(m.tunnels, in))
			default:
				p := randomPacket(next)
				n, g, e := l.Step(p)
				if wantNext, after, wantErr := m.step(p); n != wantNext || !samePacket(g, after) || e != wantErr {
					t.Fatalf("Step(%v) = %d, %v, %d, not %d, %v, %d", p, n, g, e, wantNext, after, wantErr)
				}
				if e == api.OK && alive(g) > alive(p)-1 {
					t.Fatalf("Step(%v) = %v lives as long", p, g)
				}
				steps[e]++
			}
			check(t, l, sorted(m.labels), sorted(m.tunnels))
		}
	}
	for _, e := range []api.Errno{api.OK, api.ErrNone, api.ErrLabel, api.ErrTtl} {
		if steps[e] == 0 {
			t.Errorf("no step returned %d: %v", e, steps)
		}
	}
}

// P5.5: on labels that lead round, a packet goes on as often as its Ttl says, and not once more.

func TestRoundEnds(t *testing.T) {
	l := newTable(t, 4)
	want(t, l.Map(7, Out{1, 16}), api.OK)
	want(t, l.Bind(16, Out{1, 17}), api.OK)
	want(t, l.Bind(17, Out{2, 16}), api.OK)
	for ttl := range 256 {
		p := api.Packet{Tunnel: 7, Ttl: ttl}
		for left := ttl; left > 0; left-- {
			_, after, e := l.Step(p)
			want(t, e, api.OK)
			if alive(after) != left-1 {
				t.Fatalf("Step(%v) = %v", p, after)
			}
			p = after
		}
		noStep(t, l, p, api.ErrTtl)
	}
}

// P5.5: entries that are popped one after the other, from above smaller and greater ones.

func TestPopsDecrease(t *testing.T) {
	l := newTable(t, 1)
	want(t, l.Bind(16, Out{1, 3}), api.OK)
	p := api.Packet{Stack: stack{entry(16, 0, 100), entry(16, 0, 255), entry(16, 0, 50), entry(16, 0, 49), entry(16, 0, 2), entry(16, 0, 1)}, Ttl: 255}
	for _, left := range []int{99, 50, 49, 2, 1, 0} {
		n, after, e := l.Step(p)
		if n != 1 || e != api.OK || alive(after) != left {
			t.Fatalf("Step(%v) = %d, %v, %d", p, n, after, e)
		}
		p = after
	}
	if len(p.Stack) != 0 {
		t.Errorf("%v is left", p)
	}
	noStep(t, l, api.Packet{Stack: stack{entry(16, 0, 0), entry(16, 0, 9)}, Ttl: 255}, api.ErrTtl)
}

// P5.6: the same numbers in both tables, which are full of them.

func TestIndependence(t *testing.T) {
	l := newTable(t, 2)
	want(t, l.Bind(16, Out{1, 20}), api.OK)
	want(t, l.Bind(17, Out{2, 21}), api.OK)
	check(t, l, []Row{{16, Out{1, 20}}, {17, Out{2, 21}}}, nil)
	// Full of labels, the table has room for as many tunnels.
	want(t, l.Map(16, Out{3, 22}), api.OK)
	want(t, l.Map(17, Out{4, 23}), api.OK)
	check(t, l, []Row{{16, Out{1, 20}}, {17, Out{2, 21}}}, []Row{{16, Out{3, 22}}, {17, Out{4, 23}}})
	want(t, l.Bind(18, Out{1, 3}), api.ErrFull)
	want(t, l.Map(18, Out{1, 3}), api.ErrFull)

	want(t, l.Map(16, Out{5, 3}), api.OK)
	want(t, l.Free(17), api.OK)
	check(t, l, []Row{{16, Out{1, 20}}}, []Row{{16, Out{5, 3}}, {17, Out{4, 23}}})
	want(t, l.Free(17), api.ErrNone)
	want(t, l.Map(18, Out{1, 3}), api.ErrFull)
	want(t, l.Unmap(16), api.OK)
	want(t, l.Unmap(16), api.ErrNone)
	check(t, l, []Row{{16, Out{1, 20}}}, []Row{{17, Out{4, 23}}})

	step(t, l, api.Packet{Stack: stack{entry(16, 0, 9)}, Tunnel: 17, Ttl: 5}, 1, api.Packet{Stack: stack{entry(20, 0, 8)}, Tunnel: 17, Ttl: 5})
	step(t, l, api.Packet{Tunnel: 17, Ttl: 5}, 4, api.Packet{Stack: stack{entry(23, 0, 4)}, Tunnel: 17, Ttl: 4})
	noStep(t, l, api.Packet{Tunnel: 16, Ttl: 5}, api.ErrNone)
	noStep(t, l, api.Packet{Stack: stack{entry(17, 0, 9)}, Tunnel: 17, Ttl: 5}, api.ErrLabel)
}
