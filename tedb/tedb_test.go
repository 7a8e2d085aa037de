package tedb

import (
	"math"
	"slices"
	"testing"

	"viaduct/api"
)

const (
	// most is the greatest number of 64 bits.
	most = math.MaxUint64
	// lastSeq is the greatest Seq.
	lastSeq = 1<<32 - 1
)

// mix answers numbers from 0 to n - 1 without an order to be seen, the same in every run.
func mix(seed uint64) func(n int) int {
	return func(n int) int {
		seed = seed*6364136223846793005 + 1442695040888963407
		return int(((seed ^ seed>>29) >> 8) % uint64(n))
	}
}

// even is a list of what is free: as much for each priority.
func even(u uint64) [8]uint64 {
	return [8]uint64{u, u, u, u, u, u, u, u}
}

// some is a valid advert of a link, unlike those that New makes.
func some(from, to, seq int) Advert {
	return Advert{api.Link{From: from, To: to, Cap: 20, Metric: 7, Groups: 5}, seq, false, [8]uint64{20, 19, 19, 8, 7, 7, 1, 0}}
}

// first is the advert that New makes of a link.
func first(l api.Link) Advert {
	return Advert{Link: l, Up: true, Free: even(l.Cap)}
}

// firsts are those of several links.
func firsts(l []api.Link) []Advert {
	var all []Advert
	for _, x := range l {
		all = append(all, first(x))
	}
	return all
}

// triangle has links in both directions between 0 and 1, and one from 1 to 2.
func triangle() []api.Link {
	return []api.Link{
		{From: 0, To: 1, Cap: 10, Metric: 1},
		{From: 1, To: 2, Cap: most, Metric: 65535, Groups: math.MaxUint32},
		{From: 1, To: 0, Cap: 0, Metric: 3, Groups: 6},
	}
}

// valid says by the words of the chapter, number by number, whether an advert may be.
func valid(a Advert) bool {
	x := a.Link
	if x.From < 0 || x.From > 15 || x.To < 0 || x.To > 15 || x.From == x.To || x.Metric < 1 || x.Metric > 65535 {
		return false
	}
	if a.Seq < 0 || a.Seq > 4294967295 {
		return false
	}
	for p := 1; p < 8; p++ {
		if a.Free[p] > a.Free[p-1] {
			return false
		}
	}
	return a.Free[0] <= x.Cap
}

// changed is some advert with one thing changed.
func changed(change func(a *Advert)) Advert {
	a := some(2, 9, 7)
	change(&a)
	return a
}

// goods are valid adverts, at the edges too.
func goods() []Advert {
	return []Advert{
		some(0, 1, 0), some(1, 0, 1), some(0, 15, lastSeq), some(15, 0, lastSeq-1), some(14, 15, 1<<31), some(7, 8, 1<<31-1),
		{Link: api.Link{From: 0, To: 1, Metric: 1}},
		{Link: api.Link{From: 1, To: 0, Metric: 65535}, Up: true},
		changed(func(a *Advert) { a.Link.Metric = 1 }),
		changed(func(a *Advert) { a.Link.Metric = 65535 }),
		changed(func(a *Advert) { a.Link.Metric = 256 }),
		changed(func(a *Advert) { a.Link.Groups = 0 }),
		changed(func(a *Advert) { a.Link.Groups = math.MaxUint32 }),
		changed(func(a *Advert) { a.Link.Groups = 1 << 31 }),
		changed(func(a *Advert) { a.Up = true }),
		changed(func(a *Advert) { a.Free = [8]uint64{} }),
		changed(func(a *Advert) { a.Free = even(20) }),
		changed(func(a *Advert) { a.Free = [8]uint64{20} }),
		changed(func(a *Advert) { a.Link.Cap = 21 }),
		changed(func(a *Advert) { a.Link.Cap = most }),
		changed(func(a *Advert) { a.Link.Cap, a.Free = most, even(most) }),
		changed(func(a *Advert) {
			a.Link.Cap, a.Free = most-1, [8]uint64{most - 1, 1<<63 + 1, 1 << 63, 1<<63 - 1, 256, 255, 1, 1}
		}),
		changed(func(a *Advert) { a.Link.Cap, a.Free = 0, [8]uint64{} }),
	}
}

// bads are adverts that are not valid, each by one thing.
func bads() []Advert {
	var all []Advert
	for _, n := range []int{-1, 16, 17, 256, 258, 1<<32 + 3, math.MaxInt, math.MinInt, math.MinInt + 3} {
		all = append(all, changed(func(a *Advert) { a.Link.From = n }), changed(func(a *Advert) { a.Link.To = n }))
	}
	for n := range 16 {
		all = append(all, some(n, n, 7))
	}
	for _, n := range []int{0, -1, 65536, 1 << 32, 1<<32 + 7, math.MaxInt, math.MinInt, math.MinInt + 7} {
		all = append(all, changed(func(a *Advert) { a.Link.Metric = n }))
	}
	for _, n := range []int{-1, lastSeq + 1, 1<<32 + 7, math.MaxInt, math.MinInt, math.MinInt + 7, -lastSeq} {
		all = append(all, changed(func(a *Advert) { a.Seq = n }))
	}
	for _, u := range []uint64{0, 19, 1} {
		all = append(all, changed(func(a *Advert) { a.Link.Cap = u }))
	}
	for p := range 8 {
		all = append(all,
			changed(func(a *Advert) { a.Free = [8]uint64{}; a.Free[p] = 21 }),
			changed(func(a *Advert) { a.Free = even(20); a.Free[p] = 21 }),
			changed(func(a *Advert) { a.Free = even(20); a.Free[p] = most }),
			changed(func(a *Advert) { a.Link.Cap, a.Free = most-1, even(most-1); a.Free[p] = most }))
	}
	for p := 1; p < 8; p++ {
		all = append(all,
			changed(func(a *Advert) { a.Free = even(19); a.Free[p] = 20 }),
			changed(func(a *Advert) { a.Free = [8]uint64{}; a.Free[p] = 1 }))
	}
	return all
}

// random is an advert of one of these links, which is mostly valid.
func random(n func(int) int, ends [][2]int) Advert {
	at := ends[n(len(ends))]
	a := some(at[0], at[1], n(9))
	a.Link.Metric, a.Link.Groups, a.Up = n(60000)+1, uint32(n(1<<32)), n(2) == 0
	a.Link.Cap = uint64(n(1<<62)) << n(3)
	left := a.Link.Cap
	for p := range a.Free {
		left -= uint64(n(1<<62)) % (left/4 + 1)
		a.Free[p] = left
	}
	switch n(20) {
	case 0:
		a.Seq = lastSeq - n(2)
	case 1:
		a.Seq = -n(3)
	case 2:
		a.Free[n(8)] = a.Link.Cap/2 + uint64(n(5))
	}
	return a
}

// knows asks for what a base has.
func knows(t *testing.T, b *Base, want []Advert) {
	t.Helper()
	if got := b.All(); !slices.Equal(got, want) {
		t.Fatalf("All: %v, not %v", got, want)
	}
}

// applies asks for an advert that is newer, so that it replaces the one at an index, and no other one.
func applies(t *testing.T, b *Base, a Advert, at int) {
	t.Helper()
	want := b.All()
	want[at] = a
	if news, e := b.Apply(a); !news || e != api.OK {
		t.Fatalf("Apply(%+v) = %t, %d, not true", a, news, e)
	}
	knows(t, b, want)
}

// keeps asks for an answer, and for a base that has not changed.
func keeps(t *testing.T, b *Base, a Advert, want api.Errno) {
	t.Helper()
	before := b.All()
	if news, e := b.Apply(a); news || e != want {
		t.Fatalf("Apply(%+v) = %t, %d, not false, %d", a, news, e, want)
	}
	knows(t, b, before)
}

// base is one of a network that is right.
func base(t *testing.T, n int, l []api.Link) *Base {
	t.Helper()
	b := New(n, l)
	if b == nil {
		t.Fatalf("New(%d, %v) is nil", n, l)
	}
	return b
}

// great is a network of 16 nodes with 64 links.
func great() []api.Link {
	var l []api.Link
	for from := range 16 {
		for step := 1; step < 5; step++ {
			l = append(l, api.Link{From: from, To: (from + step) % 16, Cap: uint64(from*step) << 40, Metric: from + step, Groups: 1 << from})
		}
	}
	return l
}

// P15.1

func TestMay(t *testing.T) {
	for _, a := range goods() {
		if !May(a) {
			t.Errorf("May(%+v) is false", a)
		}
	}
	for _, a := range bads() {
		if May(a) {
			t.Errorf("May(%+v) is true", a)
		}
	}
	if May(Advert{}) {
		t.Error("May of the zero value is true")
	}
}

func TestMayOfEnds(t *testing.T) {
	for from := -2; from < 20; from++ {
		for to := -2; to < 20; to++ {
			if a := some(from, to, 1); May(a) != valid(a) {
				t.Errorf("May of a link from %d to %d is %t", from, to, !valid(a))
			}
		}
	}
}

func TestMayOfRandom(t *testing.T) {
	n := mix(1)
	ends := [][2]int{{0, 1}, {1, 0}, {3, 15}, {15, 14}, {16, 0}, {4, 4}}
	seen := [2]int{}
	for range 5000 {
		a := random(n, ends)
		if May(a) != valid(a) {
			t.Fatalf("May(%+v) is %t", a, !valid(a))
		}
		if valid(a) {
			seen[1]++
		} else {
			seen[0]++
		}
	}
	if seen[0] < 500 || seen[1] < 500 {
		t.Errorf("too few of one kind: %d", seen)
	}
}

// P15.2

func TestNew(t *testing.T) {
	for _, x := range []struct {
		n int
		l []api.Link
	}{
		{1, nil}, {16, nil}, {3, triangle()}, {16, triangle()}, {16, great()},
		{2, []api.Link{{From: 1, To: 0, Cap: 5, Metric: 2, Groups: 9}}},
		{16, []api.Link{{From: 15, To: 0, Cap: most, Metric: 65535}, {From: 0, To: 15, Metric: 1}}},
	} {
		knows(t, base(t, x.n, x.l), firsts(x.l))
	}
	if b := New(2, []api.Link{}); b == nil || len(b.All()) != 0 {
		t.Errorf("a base without links: %v", b)
	}
}

func TestNewOfNone(t *testing.T) {
	one := api.Link{From: 0, To: 1, Cap: 5, Metric: 2}
	for _, n := range []int{0, -1, 17, 1, math.MaxInt, math.MinInt} {
		if New(n, []api.Link{one}) != nil {
			t.Errorf("New(%d) isn't nil", n)
		}
	}
	for _, n := range []int{0, -1, 17, math.MaxInt, math.MinInt} {
		if New(n, nil) != nil {
			t.Errorf("New(%d) without links isn't nil", n)
		}
	}
	for _, x := range []struct {
		n int
		l []api.Link
	}{
		{16, append(great(), api.Link{From: 0, To: 5, Metric: 1})}, {16, slices.Repeat([]api.Link{one}, 65)},
		{2, []api.Link{one, one}}, {2, []api.Link{one, {From: 1, To: 0, Metric: 1}, {From: 0, To: 1, Cap: 6, Metric: 3}}},
		{2, []api.Link{one, {From: 1, To: 1, Metric: 1}}}, {4, []api.Link{{From: 1, To: 4, Metric: 1}, one}}, {4, []api.Link{{From: 4, To: 1, Metric: 1}}},
		{4, []api.Link{{From: -1, To: 1, Metric: 1}}}, {4, []api.Link{{From: 1, To: -1, Metric: 1}}}, {16, []api.Link{one, {From: 1, To: 16, Metric: 1}}},
		{2, []api.Link{{From: 0, To: 1}}}, {2, []api.Link{{From: 0, To: 1, Metric: -1}}}, {3, []api.Link{one, {From: 2, To: 1, Metric: 65536}}},
	} {
		if New(x.n, x.l) != nil {
			t.Errorf("New(%d, %v) isn't nil", x.n, x.l)
		}
	}
}

// R6

func TestNewIsOwn(t *testing.T) {
	l := triangle()
	one, two := base(t, 3, l), base(t, 3, l)
	if !slices.Equal(l, triangle()) {
		t.Fatalf("New changed its argument to %v", l)
	}
	l[0], l[1].Cap = api.Link{}, 3
	knows(t, one, firsts(triangle()))
	applies(t, one, some(0, 1, 1), 0)
	knows(t, two, firsts(triangle()))
	if l[0] != (api.Link{}) || l[1].Cap != 3 {
		t.Errorf("Apply wrote into New's argument: %v", l)
	}
}

// P15.3

func TestExample(t *testing.T) {
	b := base(t, 2, []api.Link{{From: 0, To: 1, Cap: 10, Metric: 1}})
	a := Advert{Link: api.Link{From: 0, To: 1, Cap: 10, Metric: 1}, Seq: 2}
	applies(t, b, a, 0)
	keeps(t, b, a, api.OK)
	a.Seq = 1
	keeps(t, b, a, api.OK)
	a.Link.From, a.Link.To, a.Seq = 1, 0, 9
	keeps(t, b, a, api.ErrNone)
	if l, e := Decode(make([]byte, 87)); len(l) > 0 || e != api.ErrForm {
		t.Errorf("Decode of 87 bytes: %v, %d", l, e)
	}
}

// Seq alone decides what is newer.
func TestApplyBySeq(t *testing.T) {
	seqs := []int{0, 1, 2, 3, 255, 256, 1<<31 - 1, 1 << 31, 1<<31 + 1, lastSeq - 1, lastSeq}
	for i, old := range seqs {
		for j, seq := range seqs {
			b := base(t, 3, triangle())
			// The first advert has the Seq 0 already.
			if old > 0 {
				applies(t, b, some(1, 2, old), 1)
			}
			for _, a := range []Advert{some(1, 2, seq), {Link: api.Link{From: 1, To: 2, Cap: most, Metric: 1}, Seq: seq, Up: true, Free: even(most)}, {Link: api.Link{From: 1, To: 2, Metric: 9}, Seq: seq}} {
				c := b.Copy()
				if j > i {
					applies(t, c, a, 1)
				} else {
					keeps(t, c, a, api.OK)
				}
			}
		}
	}
}

// Each field is replaced, also those of the link, such as a greater Cap.
func TestApplyReplaces(t *testing.T) {
	for _, a := range goods() {
		a.Link.From, a.Link.To = 1, 2
		b := base(t, 3, triangle())
		if a.Seq == 0 {
			a.Seq = 1
		}
		applies(t, b, a, 1)
		keeps(t, b, a, api.OK)
	}
}

// A link has an advert of its own; the one in the other direction is another link.
func TestApplyToEach(t *testing.T) {
	l := great()
	b := base(t, 16, l)
	for i, x := range l {
		applies(t, b, some(x.From, x.To, 64-i), i)
	}
	for i, x := range l {
		keeps(t, b, some(x.From, x.To, 64-i), api.OK)
		applies(t, b, some(x.From, x.To, 65+i), i)
	}
}

func TestApplyToNone(t *testing.T) {
	b := base(t, 3, triangle())
	for from := range 16 {
		for to := range 16 {
			known := from == 0 && to == 1 || from == 1 && to == 2 || from == 1 && to == 0
			if from == to || known {
				continue
			}
			keeps(t, b, some(from, to, 1), api.ErrNone)
			keeps(t, b, some(from, to, 0), api.ErrNone)
		}
	}
	keeps(t, base(t, 16, nil), some(0, 1, 1), api.ErrNone)
}

// What is not valid counts before a link that is not there.
func TestApplyOfInvalid(t *testing.T) {
	with := base(t, 10, []api.Link{{From: 0, To: 1, Metric: 1}, {From: 2, To: 9, Cap: 3, Metric: 1}})
	without := base(t, 10, []api.Link{{From: 0, To: 1, Metric: 1}})
	for _, a := range bads() {
		keeps(t, with, a, api.ErrArg)
		keeps(t, without, a, api.ErrArg)
	}
	keeps(t, with, Advert{}, api.ErrArg)
	applies(t, with, some(2, 9, 7), 1)
	for _, a := range bads() {
		keeps(t, with, a, api.ErrArg)
	}
}

// R7, and P15.4 for a base that New did not create

func TestNotCreated(t *testing.T) {
	for _, b := range []*Base{nil, {}, new(Base)} {
		for range 2 {
			for _, a := range append(bads(), some(0, 1, 1), some(2, 1, 0), Advert{}) {
				if news, e := b.Apply(a); news || e != api.ErrNil {
					t.Errorf("Apply: %t, %d", news, e)
				}
			}
			if l := b.All(); len(l) > 0 {
				t.Errorf("All: %v", l)
			}
			if b.Copy() != nil {
				t.Error("Copy isn't nil")
			}
		}
	}
}

// P15.4

func TestAllIsNew(t *testing.T) {
	b := base(t, 3, triangle())
	l := b.All()
	clear(l)
	_ = append(l[:1], some(2, 0, 9))
	knows(t, b, firsts(triangle()))
	l = b.All()
	applies(t, b, some(0, 1, 4), 0)
	if !slices.Equal(l, firsts(triangle())) {
		t.Errorf("Apply changed what All returned before: %v", l)
	}
}

func TestCopy(t *testing.T) {
	b := base(t, 3, triangle())
	applies(t, b, some(1, 2, 4), 1)
	before := b.All()
	c := b.Copy()
	knows(t, c, before)
	applies(t, c, some(0, 1, 2), 0)
	applies(t, c, some(1, 2, 5), 1)
	knows(t, b, before)
	after := c.All()
	applies(t, b, some(1, 0, 1), 2)
	knows(t, c, after)
	// A copy has the errors and the Seqs of the original.
	keeps(t, c, some(1, 2, 5), api.OK)
	keeps(t, c, some(2, 1, 5), api.ErrNone)
	keeps(t, c, Advert{}, api.ErrArg)
	d := c.Copy().Copy()
	knows(t, d, after)
	applies(t, d, some(1, 0, 1), 2)
	knows(t, c, after)
}

// A network may have no links: its base was created all the same, and so were copies of it.
func TestCopyOfNoLinks(t *testing.T) {
	b := base(t, 1, nil)
	for range 3 {
		if b = b.Copy(); b == nil {
			t.Fatal("Copy is nil")
		}
		knows(t, b, nil)
		keeps(t, b, some(0, 1, 1), api.ErrNone)
	}
}

// P15.6

// permutations calls a function for all orders of n numbers.
func permutations(n int, each func(order []int)) {
	var extend func(order []int)
	extend = func(order []int) {
		if len(order) == n {
			each(order)
			return
		}
		for i := range n {
			if !slices.Contains(order, i) {
				extend(append(slices.Clone(order), i))
			}
		}
	}
	extend(nil)
}

func TestAnyOrder(t *testing.T) {
	l := []Advert{some(0, 1, 1), some(0, 1, 3), some(1, 0, 2), some(0, 1, 2), some(1, 0, lastSeq), some(1, 2, 0)}
	l[0].Up, l[2].Link.Cap, l[3].Free[7], l[5].Link.Metric = true, 21, 1, 12
	want := []Advert{l[1], first(triangle()[1]), l[4]}
	permutations(len(l), func(order []int) {
		b := base(t, 3, triangle())
		for i, at := range order {
			b.Apply(l[at])
			// Some of them come again.
			b.Apply(l[at])
			b.Apply(l[order[i/2]])
		}
		knows(t, b, want)
	})
}

// P15.6 and P15.7

func TestManyApplies(t *testing.T) {
	n := mix(2)
	ends := [][2]int{{0, 1}, {1, 2}, {1, 0}, {2, 1}, {0, 16}, {3, 0}, {1, 1}}
	for range 100 {
		b := base(t, 3, triangle())
		newest := map[[2]int]Advert{}
		for _, a := range firsts(triangle()) {
			newest[[2]int{a.Link.From, a.Link.To}] = a
		}
		for range 100 {
			a := random(n, ends)
			old, known := newest[[2]int{a.Link.From, a.Link.To}]
			want := api.OK
			if !valid(a) {
				want = api.ErrArg
			} else if !known {
				want = api.ErrNone
			} else if a.Seq > old.Seq {
				newest[[2]int{a.Link.From, a.Link.To}] = a
			}
			news, e := b.Apply(a)
			if e != want || news != (e == api.OK && a.Seq > old.Seq) {
				t.Fatalf("Apply(%+v) after %+v = %t, %d", a, old, news, e)
			}
			knows(t, b, []Advert{newest[ends[0]], newest[ends[1]], newest[ends[2]]})
		}
	}
}

func TestAnyOrderOfMany(t *testing.T) {
	n := mix(3)
	for range 50 {
		var l []Advert
		for _, x := range great() {
			for i := range n(4) {
				a := random(n, [][2]int{{x.From, x.To}})
				a.Seq = 4*n(5) + i
				l = append(l, a)
			}
		}
		one, two := base(t, 16, great()), base(t, 16, great())
		for _, a := range l {
			one.Apply(a)
		}
		for i := range l {
			j := i + n(len(l)-i)
			l[i], l[j] = l[j], l[i]
			two.Apply(l[i])
			two.Apply(l[n(i+1)])
		}
		knows(t, two, one.All())
	}
}

// P15.7

func TestSeqNeverDecreases(t *testing.T) {
	n := mix(4)
	b := base(t, 3, triangle())
	for range 3000 {
		before := b.All()
		a := random(n, [][2]int{{0, 1}, {1, 2}, {1, 0}, {2, 0}})
		a.Seq = n(1<<n(34)) - n(2)
		news, _ := b.Apply(a)
		for i, x := range b.All() {
			same := x == before[i]
			if x.Seq < before[i].Seq || !same && (!news || x.Seq == before[i].Seq || x != a) {
				t.Fatalf("Apply(%+v) replaced %+v by %+v", a, before[i], x)
			}
		}
	}
}
