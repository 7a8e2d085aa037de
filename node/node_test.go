package node

import (
	"maps"
	"math"
	"reflect"
	"slices"
	"testing"

	"viaduct/admit"
	"viaduct/api"
	"viaduct/ledger"
	"viaduct/lfib"
	"viaduct/message"
	"viaduct/soft"
	"viaduct/tedb"
)

// lastTick is the last one that is valid.
const lastTick = soft.Never - api.Life

// badTicks are numbers that are no ticks.
var badTicks = []int{math.MinInt, -soft.Never, -1, lastTick + 1, soft.Never, math.MaxInt}

// network: 0-1-2 in both directions, a link from 1 to 3, and one from 4 to 1. Each of them has its own Cap.
func network() []api.Link {
	return []api.Link{
		{From: 1, To: 2, Cap: 10, Metric: 1}, {From: 0, To: 1, Cap: 11, Metric: 1}, {From: 1, To: 0, Cap: 12, Metric: 1},
		{From: 2, To: 1, Cap: 13, Metric: 1}, {From: 1, To: 3, Cap: 14, Metric: 1}, {From: 4, To: 1, Cap: 15, Metric: 1},
	}
}

// nodeOf is a node of network, with the labels from 16 on.
func nodeOf(t *testing.T, id int) *Node {
	t.Helper()
	x := New(id, 5, network(), 16, 999)
	if x == nil {
		t.Fatalf("no node %d", id)
	}
	return x
}

// key is that of a path of a tunnel from 0 to 2.
func key(tunnel int) api.Key {
	return api.Key{Tail: 2, Tunnel: tunnel, Head: 0, Lsp: 1}
}

// want is one whose priorities are the same.
func want(bw uint64, priority int) api.Want {
	return api.Want{Bw: bw, Setup: priority, Hold: priority}
}

// route is that of the paths of key.
func route() []int {
	return []int{0, 1, 2}
}

// at is a state of key at a place of route, with nothing but its time to live.
func at(tunnel int, w api.Want, place, until int) soft.State {
	return soft.State{Key: key(tunnel), Want: w, Route: route(), At: place, Until: until}
}

// with is a state with labels, the tick until which these are kept, and the last serial number.
func with(s soft.State, in, out, keep, seen int) soft.State {
	s.In, s.Out, s.Keep, s.Seen = in, out, keep, seen
	return s
}

// pathFrom is a Path of key that comes from a node of route.
func pathFrom(from, tunnel int, w api.Want) message.Message {
	return message.Message{Type: message.Path, Key: key(tunnel), From: from, Want: w, Route: route(), Record: route()[:from+1]}
}

// resvFrom is a Resv of key that comes from a node of route.
func resvFrom(from, tunnel int, bw uint64, label, serial int) message.Message {
	return message.Message{Type: message.Resv, Key: key(tunnel), From: from, Want: api.Want{Bw: bw}, Label: label, Serial: serial}
}

// tearFrom is a PathTear or a ResvTear of key.
func tearFrom(from, kind, tunnel int) message.Message {
	return message.Message{Type: kind, Key: key(tunnel), From: from}
}

// fault is a message of key that tells of a node and a code, without a From.
func fault(kind, tunnel, where int, code api.Errno) message.Message {
	return message.Message{Type: kind, Key: key(tunnel), Where: where, Code: int(code)}
}

// send is a message as a node sends it: with the greatest Ttl, and, in a Path and in a Resv, the Period.
func send(to int, m message.Message) Send {
	m.Ttl = 255
	if m.Type == message.Path || m.Type == message.Resv {
		m.Period = 3
	}
	return Send{to, m}
}

// resvErr is the one that a node sends.
func resvErr(from, tunnel, where int, code api.Errno) message.Message {
	m := fault(message.ResvErr, tunnel, where, code)
	m.From = from
	return m
}

// is asks for an error.
func is(t *testing.T, what string, got, want api.Errno) {
	t.Helper()
	if got != want {
		t.Fatalf("%s: %d, not %d", what, got, want)
	}
}

// gets lets a node receive a message, and asks for the error.
func gets(t *testing.T, x *Node, now, from int, m message.Message, want api.Errno) {
	t.Helper()
	if e := x.Recv(now, from, m); e != want {
		t.Fatalf("Recv(%d, %d, %+v) = %d, not %d", now, from, m, e, want)
	}
}

// sends asks for the messages that wait.
func sends(t *testing.T, x *Node, all ...Send) {
	t.Helper()
	if got := x.Sends(); len(got) != len(all) || len(all) > 0 && !reflect.DeepEqual(got, all) {
		t.Fatalf("Sends: %+v, not %+v", got, all)
	}
}

// tells asks for the events that wait.
func tells(t *testing.T, x *Node, all ...Event) {
	t.Helper()
	if got := x.Events(); !slices.Equal(got, all) {
		t.Fatalf("Events: %+v, not %+v", got, all)
	}
}

// quiet asks for no messages and no events.
func quiet(t *testing.T, x *Node) {
	t.Helper()
	sends(t, x)
	tells(t, x)
}

// has asks for the states.
func has(t *testing.T, x *Node, all ...soft.State) {
	t.Helper()
	if got := x.States(); len(got) != len(all) || len(all) > 0 && !reflect.DeepEqual(got, all) {
		t.Fatalf("States: %+v, not %+v", got, all)
	}
}

// row is one that leads to a node with a label.
func row(in, next, label int) lfib.Row {
	return lfib.Row{In: in, Out: lfib.Out{Next: next, Label: label}}
}

// binds asks for the entries of labels.
func binds(t *testing.T, x *Node, all ...lfib.Row) {
	t.Helper()
	if got, _ := x.Rows(); !slices.Equal(got, all) {
		t.Fatalf("labels: %v, not %v", got, all)
	}
}

// mapped asks for the entries of tunnels.
func mapped(t *testing.T, x *Node, all ...lfib.Row) {
	t.Helper()
	if _, got := x.Rows(); !slices.Equal(got, all) {
		t.Fatalf("tunnels: %v, not %v", got, all)
	}
}

// uses asks for the labels in use.
func uses(t *testing.T, x *Node, all ...int) {
	t.Helper()
	if got := x.Labels(); !slices.Equal(got, all) {
		t.Fatalf("Labels: %v, not %v", got, all)
	}
}

// entry is that of a path of key.
func entry(tunnel int, w api.Want) admit.Entry {
	return admit.Entry{Key: key(tunnel), Want: w}
}

// holds asks for who holds the link to a node; the ledger has to be that of these.
func holds(t *testing.T, x *Node, to int, size uint64, all ...admit.Entry) {
	t.Helper()
	table := admit.New(size)
	for _, y := range all {
		table.Admit(y.Key, y.Want)
	}
	l, b, e := x.Held(to)
	if !slices.Equal(l, all) || b != table.Ledger() || b.Cap != size || e != api.OK {
		t.Fatalf("Held(%d) = %v, %v, %d, not %v", to, l, b, e, all)
	}
}

// view is all that can be seen of a node, but for what waits.
type view struct {
	states          []soft.State
	labels, tunnels []lfib.Row
	inUse           []int
	held            map[int][]admit.Entry
	books           map[int]ledger.Ledger
	base            []tedb.Advert
}

func look(x *Node) view {
	v := view{states: x.States(), inUse: x.Labels(), held: map[int][]admit.Entry{}, books: map[int]ledger.Ledger{}, base: x.Base()}
	v.labels, v.tunnels = x.Rows()
	for to := range api.MaxNodes {
		if l, b, e := x.Held(to); e == api.OK {
			v.held[to], v.books[to] = l, b
		}
	}
	return v
}

// same compares views; empty lists are alike.
func (v view) same(w view) bool {
	sameState := func(a, b soft.State) bool { return reflect.DeepEqual(a, b) }
	sameHeld := func(a, b []admit.Entry) bool { return slices.Equal(a, b) }
	return slices.EqualFunc(v.states, w.states, sameState) && slices.Equal(v.labels, w.labels) && slices.Equal(v.tunnels, w.tunnels) &&
		slices.Equal(v.inUse, w.inUse) && maps.EqualFunc(v.held, w.held, sameHeld) && maps.Equal(v.books, w.books) && slices.Equal(v.base, w.base)
}

// stays asks for a node that has not changed since a view, and has nothing to say.
func stays(t *testing.T, x *Node, v view) {
	t.Helper()
	if w := look(x); !v.same(w) {
		t.Fatalf("changed from %+v to %+v", v, w)
	}
	quiet(t, x)
}

// through is the node 1, with a path of key that has a reservation since the tick 0, with the labels 16 and 3; nothing waits.
func through(t *testing.T, w api.Want) *Node {
	t.Helper()
	x := nodeOf(t, 1)
	passes(t, x, 1, w)
	return x
}

// passes sets up a path of key through the node 1, at the tick 0.
func passes(t *testing.T, x *Node, tunnel int, w api.Want) {
	t.Helper()
	gets(t, x, 0, 0, pathFrom(0, tunnel, w), api.OK)
	gets(t, x, 0, 2, resvFrom(2, tunnel, w.Bw, 3, 1), api.OK)
	x.Sends()
}

// begins is the node 0, with a path of key that has a reservation since the tick 0, with the label 20; nothing waits.
func begins(t *testing.T, w api.Want) *Node {
	t.Helper()
	x := nodeOf(t, 0)
	is(t, "Start", x.Start(0, key(1), w, route()), api.OK)
	gets(t, x, 0, 1, resvFrom(1, 1, w.Bw, 20, 1), api.OK)
	x.Sends()
	x.Events()
	return x
}

// ends is the node 2, with a path of key since the tick 0; nothing waits.
func ends(t *testing.T, w api.Want) *Node {
	t.Helper()
	x := nodeOf(t, 2)
	gets(t, x, 0, 1, pathFrom(1, 1, w), api.OK)
	x.Sends()
	return x
}

// P19.1

func TestNew(t *testing.T) {
	for id := range 5 {
		x := nodeOf(t, id)
		has(t, x)
		binds(t, x)
		mapped(t, x)
		uses(t, x)
		quiet(t, x)
		if got := x.Base(); !slices.Equal(got, tedb.New(5, network()).All()) {
			t.Errorf("Base of %d: %v", id, got)
		}
		for to := range 5 {
			i := slices.IndexFunc(network(), func(l api.Link) bool { return l.From == id && l.To == to })
			if i >= 0 {
				holds(t, x, to, network()[i].Cap)
			} else if l, b, e := x.Held(to); len(l) > 0 || b != (ledger.Ledger{}) || e != api.ErrNone {
				t.Errorf("Held(%d) of %d = %v, %v, %d", to, id, l, b, e)
			}
		}
	}
	if New(0, 1, nil, 16, 16) == nil || New(15, 16, nil, api.MaxLabel, api.MaxLabel) == nil {
		t.Error("no node without links")
	}
}

func TestNoNew(t *testing.T) {
	twice := append(network(), network()[0])
	for i, c := range []struct {
		id, n     int
		l         []api.Link
		low, high int
	}{
		{-1, 5, network(), 16, 99}, {5, 5, network(), 16, 99}, {math.MaxInt, 5, network(), 16, 99}, {math.MinInt, 5, network(), 16, 99},
		{0, 0, nil, 16, 99}, {0, -1, nil, 16, 99}, {0, 17, nil, 16, 99}, {1, 4, network(), 16, 99}, {1, 5, twice, 16, 99},
		{1, 5, []api.Link{{From: 0, To: 1}}, 16, 99}, {1, 5, []api.Link{{From: 1, To: 1, Metric: 1}}, 16, 99},
		{1, 5, network(), 15, 99}, {1, 5, network(), 16, 15}, {1, 5, network(), 16, api.MaxLabel + 1}, {1, 5, network(), -5, -1},
	} {
		if New(c.id, c.n, c.l, c.low, c.high) != nil {
			t.Errorf("number %d: a node", i)
		}
	}
}

func TestNotCreated(t *testing.T) {
	for _, x := range []*Node{nil, {}} {
		for _, now := range []int{0, -1} {
			is(t, "Start", x.Start(now, key(1), want(4, 5), route()), api.ErrNil)
			is(t, "Recv", x.Recv(now, 0, pathFrom(0, 1, want(4, 5))), api.ErrNil)
			is(t, "Tick", x.Tick(now), api.ErrNil)
		}
		is(t, "Recv", x.Recv(0, 0, message.Message{}), api.ErrNil)
		is(t, "Stop", x.Stop(key(1)), api.ErrNil)
		is(t, "Link", x.Link(1, true), api.ErrNil)
		is(t, "Restart", x.Restart(), api.ErrNil)
		is(t, "Map", x.Map(1, key(1)), api.ErrNil)
		is(t, "Unmap", x.Unmap(1), api.ErrNil)
		if to, p, e := x.Step(api.Packet{Tunnel: 1, Ttl: 5}); to != 0 || !reflect.DeepEqual(p, api.Packet{}) || e != api.ErrNil {
			t.Errorf("Step: %d, %v, %d", to, p, e)
		}
		x.Learn([]tedb.Advert{{Link: network()[0], Seq: 1}})
		if l, b, e := x.Held(1); len(l) > 0 || b != (ledger.Ledger{}) || e != api.ErrNil {
			t.Errorf("Held: %v, %v, %d", l, b, e)
		}
		has(t, x)
		binds(t, x)
		mapped(t, x)
		uses(t, x)
		quiet(t, x)
		if l := x.Base(); len(l) > 0 {
			t.Errorf("Base: %v", l)
		}
	}
}

// P19.2

func TestStart(t *testing.T) {
	w := api.Want{Bw: math.MaxUint64, Setup: 5, Hold: 3, Any: 1, All: 2, None: 4}
	for _, now := range []int{0, 7, lastTick} {
		x := nodeOf(t, 0)
		is(t, "Start", x.Start(now, key(1), w, route()), api.OK)
		has(t, x, at(1, w, 0, soft.Never))
		m := pathFrom(0, 1, w)
		sends(t, x, send(1, m))
		tells(t, x)
		uses(t, x)
		holds(t, x, 1, 11)
	}
	x := nodeOf(t, 4)
	k := api.Key{Tail: 3, Tunnel: 65535, Head: 4, Lsp: 65535}
	is(t, "Start", x.Start(0, k, w, []int{4, 1, 3}), api.OK)
	sends(t, x, send(1, message.Message{Type: message.Path, Key: k, From: 4, Want: w, Route: []int{4, 1, 3}, Record: []int{4}}))
	// The last node may be the next one, and numbers may be 0.
	x = nodeOf(t, 1)
	k = api.Key{Tail: 3, Head: 1}
	is(t, "Start", x.Start(0, k, api.Want{}, []int{1, 3}), api.OK)
	has(t, x, soft.State{Key: k, Route: []int{1, 3}, Until: soft.Never})
	sends(t, x, send(3, message.Message{Type: message.Path, Key: k, From: 1, Route: []int{1, 3}, Record: []int{1}}))
}

func TestStartRefuses(t *testing.T) {
	x := nodeOf(t, 0)
	w := want(4, 5)
	is(t, "Start", x.Start(0, key(1), w, route()), api.OK)
	x.Sends()
	before := look(x)
	for i, c := range []struct {
		now int
		k   api.Key
		w   api.Want
		r   []int
		e   api.Errno
	}{
		{-1, key(2), w, route(), api.ErrArg}, {lastTick + 1, key(2), w, route(), api.ErrArg},
		{0, key(-1), w, route(), api.ErrArg}, {0, key(65536), w, route(), api.ErrArg}, {0, api.Key{Tail: 2, Lsp: 65536}, w, route(), api.ErrArg}, {0, api.Key{Tail: 2, Lsp: -1}, w, route(), api.ErrArg},
		{0, key(2), want(4, 8), route(), api.ErrArg}, {0, key(2), api.Want{Setup: 4, Hold: 5}, route(), api.ErrArg}, {0, key(2), want(4, -1), route(), api.ErrArg},
		{0, key(2), w, nil, api.ErrArg}, {0, key(2), w, []int{0}, api.ErrArg}, {0, key(2), w, []int{0, 1}, api.ErrArg}, {0, key(2), w, []int{1, 2}, api.ErrArg}, {0, key(2), w, []int{0, 1, 0, 2}, api.ErrArg},
		{0, api.Key{Tail: 2, Head: 1}, w, []int{1, 2}, api.ErrArg}, {0, api.Key{Tail: 16}, w, []int{0, 1, 16}, api.ErrArg}, {0, api.Key{}, w, []int{0}, api.ErrArg},
		{0, key(2), w, []int{0, 2}, api.ErrRoute}, {0, key(1), w, []int{0, 2}, api.ErrRoute}, {0, api.Key{Tail: 9}, w, []int{0, 1, 9}, api.ErrRoute}, {0, api.Key{Tail: 4}, w, []int{0, 1, 4}, api.ErrRoute},
		{0, key(1), w, route(), api.ErrHave}, {5, key(1), want(5, 5), route(), api.ErrHave}, {-1, key(1), w, route(), api.ErrArg}, {-1, key(2), w, []int{0, 2}, api.ErrArg}, {0, key(2), want(4, 8), []int{0, 1, 4}, api.ErrArg},
	} {
		if e := x.Start(c.now, c.k, c.w, c.r); e != c.e {
			t.Errorf("number %d: %d, not %d", i, e, c.e)
		}
		stays(t, x, before)
	}
	for _, now := range badTicks {
		is(t, "Start", x.Start(now, key(2), w, route()), api.ErrArg)
	}
	is(t, "Link", x.Link(1, false), api.OK)
	x.Events()
	is(t, "Start", x.Start(0, key(2), w, route()), api.ErrDown)
	is(t, "Start", x.Start(0, key(1), w, route()), api.ErrHave)
	is(t, "Start", x.Start(0, key(2), w, []int{0, 2}), api.ErrRoute)
	stays(t, x, before)
	is(t, "Link", x.Link(1, true), api.OK)
	is(t, "Start", x.Start(0, key(2), w, route()), api.OK)
}

func TestStartFull(t *testing.T) {
	x := nodeOf(t, 0)
	for i := range api.MaxStates {
		is(t, "Start", x.Start(0, key(i), want(4, 5), route()), api.OK)
	}
	x.Sends()
	before := look(x)
	is(t, "Start", x.Start(0, key(99), want(4, 5), route()), api.ErrFull)
	is(t, "Start", x.Start(0, key(63), want(4, 5), route()), api.ErrHave)
	is(t, "Start", x.Start(0, key(99), want(4, 5), []int{0, 2}), api.ErrRoute)
	stays(t, x, before)
	is(t, "Link", x.Link(1, false), api.OK)
	x.Events()
	is(t, "Start", x.Start(0, key(99), want(4, 5), route()), api.ErrDown)
	stays(t, x, before)
	is(t, "Link", x.Link(1, true), api.OK)
	is(t, "Stop", x.Stop(key(7)), api.OK)
	is(t, "Start", x.Start(0, key(99), want(4, 5), route()), api.OK)
}

func TestStop(t *testing.T) {
	x := begins(t, want(4, 5))
	is(t, "Start", x.Start(0, key(2), want(3, 5), route()), api.OK)
	x.Sends()
	for _, tunnel := range []int{1, 8} {
		is(t, "Map", x.Map(tunnel, key(1)), api.OK)
	}
	before := look(x)
	for _, k := range []api.Key{key(3), {Tail: 2, Tunnel: 1, Lsp: 2}, {Tail: 1, Tunnel: 1, Lsp: 1}, {}, {Tail: -1, Tunnel: 99999}} {
		is(t, "Stop", x.Stop(k), api.ErrNone)
	}
	stays(t, x, before)
	// Whether the link is down does not matter, nor whether there is a reservation.
	is(t, "Stop", x.Stop(key(1)), api.OK)
	sends(t, x, send(1, tearFrom(0, message.PathTear, 1)))
	tells(t, x)
	has(t, x, at(2, want(3, 5), 0, soft.Never))
	mapped(t, x)
	holds(t, x, 1, 11)
	is(t, "Stop", x.Stop(key(1)), api.ErrNone)
	is(t, "Link", x.Link(1, false), api.OK)
	x.Events()
	is(t, "Stop", x.Stop(key(2)), api.OK)
	sends(t, x, send(1, tearFrom(0, message.PathTear, 2)))
	tells(t, x)
	has(t, x)
	// Those that do not begin here are not stopped.
	for _, x := range []*Node{through(t, want(4, 5)), ends(t, want(4, 5))} {
		before := look(x)
		is(t, "Stop", x.Stop(key(1)), api.ErrNone)
		stays(t, x, before)
	}
}

// P19.4

func TestTickArguments(t *testing.T) {
	x := through(t, want(4, 5))
	before := look(x)
	for _, now := range badTicks {
		is(t, "Tick", x.Tick(now), api.ErrArg)
		stays(t, x, before)
	}
}

// adverts are those of network, of which one has these numbers.
func adverts(l []tedb.Advert, i, seq int, up bool, free ...uint64) []tedb.Advert {
	l = slices.Clone(l)
	l[i].Seq, l[i].Up, l[i].Free = seq, up, [8]uint64(free)
	return l
}

func TestTickAdvertises(t *testing.T) {
	x := through(t, want(4, 5))
	all := tedb.New(5, network()).All()
	tick := func(now int) {
		t.Helper()
		is(t, "Tick", x.Tick(now), api.OK)
		if got := x.Base(); !slices.Equal(got, all) {
			t.Fatalf("Base: %v, not %v", got, all)
		}
	}
	if !slices.Equal(x.Base(), all) {
		t.Errorf("advertised ahead of the tick: %v", x.Base())
	}
	all = adverts(all, 0, 1, true, 10, 10, 10, 10, 10, 6, 6, 6)
	tick(1)
	tick(2)
	// Both at once count as one change; what changes back is not seen.
	is(t, "Link", x.Link(3, false), api.OK)
	is(t, "Link", x.Link(0, false), api.OK)
	is(t, "Link", x.Link(0, true), api.OK)
	all = adverts(all, 4, 1, false, 14, 14, 14, 14, 14, 14, 14, 14)
	tick(3)
	is(t, "Link", x.Link(2, false), api.OK)
	all = adverts(all, 0, 2, false, 10, 10, 10, 10, 10, 10, 10, 10)
	tick(4)
	is(t, "Link", x.Link(2, true), api.OK)
	is(t, "Link", x.Link(3, true), api.OK)
	all = adverts(all, 0, 3, true, 10, 10, 10, 10, 10, 10, 10, 10)
	all = adverts(all, 4, 2, true, 14, 14, 14, 14, 14, 14, 14, 14)
	tick(5)
	// What the tick itself releases is advertised by the next one.
	passes(t, x, 2, want(10, 0))
	all = adverts(all, 0, 4, true, 0, 0, 0, 0, 0, 0, 0, 0)
	tick(6)
	tick(11)
	all = adverts(all, 0, 5, true, 10, 10, 10, 10, 10, 10, 10, 10)
	tick(12)
	// An advertisement of another node's link is none of its business.
	news := tedb.Advert{Link: network()[1], Seq: 7}
	x.Learn([]tedb.Advert{news})
	all[1] = news
	tick(13)
}

func TestTickLate(t *testing.T) {
	w := want(1, 5)
	x := nodeOf(t, 1)
	// They arrive in another order than that of keys.
	for _, tunnel := range []int{9, 1, 5} {
		gets(t, x, tunnel, 0, pathFrom(0, tunnel, w), api.OK)
	}
	gets(t, x, 1, 2, resvFrom(2, 1, 1, 3, 1), api.OK)
	x.Sends()
	one := with(at(1, w, 1, 11), 16, 3, 11, 1)
	is(t, "Tick", x.Tick(11), api.OK)
	quiet(t, x)
	has(t, x, one, at(5, w, 1, 15), at(9, w, 1, 19))
	is(t, "Tick", x.Tick(16), api.OK)
	// The one with a reservation is removed as a whole: its reservation is not withdrawn.
	sends(t, x, send(2, tearFrom(1, message.PathTear, 1)), send(2, tearFrom(1, message.PathTear, 5)))
	tells(t, x)
	has(t, x, at(9, w, 1, 19))
	binds(t, x)
	uses(t, x)
	holds(t, x, 2, 10)
	is(t, "Tick", x.Tick(lastTick), api.OK)
	sends(t, x, send(2, tearFrom(1, message.PathTear, 9)))
	has(t, x)
	// Paths live on at the head; at the tail nobody is told.
	x = nodeOf(t, 0)
	is(t, "Start", x.Start(0, key(1), w, route()), api.OK)
	x.Sends()
	is(t, "Tick", x.Tick(lastTick), api.OK)
	has(t, x, at(1, w, 0, soft.Never))
	tells(t, x)
	x = ends(t, w)
	is(t, "Tick", x.Tick(10), api.OK)
	quiet(t, x)
	has(t, x, with(at(1, w, 2, 10), api.Null, 0, 0, 0))
	is(t, "Tick", x.Tick(11), api.OK)
	quiet(t, x)
	has(t, x)
}

func TestTickLapsed(t *testing.T) {
	w := want(1, 5)
	x := nodeOf(t, 1)
	for _, tunnel := range []int{7, 2} {
		passes(t, x, tunnel, w)
	}
	// The paths are refreshed, and the reservation of none.
	gets(t, x, 9, 0, pathFrom(0, 2, w), api.OK)
	gets(t, x, 9, 0, pathFrom(0, 7, w), api.OK)
	is(t, "Tick", x.Tick(10), api.OK)
	quiet(t, x)
	holds(t, x, 2, 10, entry(2, w), entry(7, w))
	is(t, "Tick", x.Tick(11), api.OK)
	sends(t, x, send(0, tearFrom(1, message.ResvTear, 2)), send(0, tearFrom(1, message.ResvTear, 7)))
	tells(t, x)
	has(t, x, with(at(2, w, 1, 19), 17, 0, 0, 1), with(at(7, w, 1, 19), 16, 0, 0, 1))
	binds(t, x)
	uses(t, x, 16, 17)
	holds(t, x, 2, 10)
	is(t, "Tick", x.Tick(13), api.OK)
	quiet(t, x)
	// At the head.
	x = begins(t, w)
	is(t, "Map", x.Map(1, key(1)), api.OK)
	is(t, "Tick", x.Tick(10), api.OK)
	quiet(t, x)
	is(t, "Tick", x.Tick(11), api.OK)
	sends(t, x)
	tells(t, x, Event{Failed, key(1), api.ErrTorn})
	has(t, x, with(at(1, w, 0, soft.Never), 0, 0, 0, 1))
	mapped(t, x)
	holds(t, x, 1, 11)
}

func TestTickRefreshes(t *testing.T) {
	w := want(1, 5)
	x := nodeOf(t, 1)
	gets(t, x, 0, 0, pathFrom(0, 8, w), api.OK)
	passes(t, x, 3, w)
	is(t, "Start", x.Start(0, api.Key{Tail: 3, Head: 1, Lsp: 4}, w, []int{1, 3}), api.OK)
	m := message.Message{Type: message.Path, Key: api.Key{Tail: 1, Tunnel: 6, Head: 4, Lsp: 2}, From: 4, Want: w, Route: []int{4, 1}, Record: []int{4}}
	gets(t, x, 0, 4, m, api.OK)
	x.Sends()
	three, eight := pathFrom(1, 3, w), pathFrom(1, 8, w)
	own := message.Message{Type: message.Path, Key: api.Key{Tail: 3, Head: 1, Lsp: 4}, From: 1, Want: w, Route: []int{1, 3}, Record: []int{1}}
	end := message.Message{Type: message.Resv, Key: m.Key, From: 1, Want: w, Label: api.Null}
	end.Want = api.Want{Bw: 1}
	serial := func(m message.Message, serial int) message.Message {
		m.Serial = serial
		return m
	}
	for _, now := range []int{1, 2, 4, 5, 7, 8} {
		is(t, "Tick", x.Tick(now), api.OK)
		quiet(t, x)
	}
	next := 3 // after those that set the paths up
	for _, now := range []int{0, 3, 6, 9} {
		is(t, "Tick", x.Tick(now), api.OK)
		sends(t, x, send(2, three), send(0, resvFrom(1, 3, 1, 16, next)), send(2, eight), send(3, own), send(4, serial(end, next+1)))
		tells(t, x)
		next += 2
	}
	// A link that is down carries no Path; what came from elsewhere is refreshed.
	is(t, "Link", x.Link(3, false), api.OK)
	is(t, "Link", x.Link(0, false), api.OK)
	x.Events()
	is(t, "Tick", x.Tick(6), api.OK)
	sends(t, x, send(2, three), send(0, resvFrom(1, 3, 1, 16, next)), send(2, eight), send(4, serial(end, next+1)))
	is(t, "Link", x.Link(2, false), api.OK)
	x.Sends()
	is(t, "Tick", x.Tick(6), api.OK)
	sends(t, x, send(4, serial(end, next+2)))
	tells(t, x)
	// A head with a reservation sends no Resv.
	y := begins(t, w)
	is(t, "Tick", y.Tick(3), api.OK)
	sends(t, y, send(1, pathFrom(0, 1, w)))
	tells(t, y)
}

// All four parts in one tick: what is removed or withdrawn is not refreshed.
func TestTickOrder(t *testing.T) {
	w := want(1, 5)
	x := nodeOf(t, 1)
	for tunnel := 1; tunnel <= 3; tunnel++ {
		passes(t, x, tunnel, w)
	}
	gets(t, x, 5, 0, pathFrom(0, 1, w), api.OK)
	gets(t, x, 5, 2, resvFrom(2, 1, 1, 3, 2), api.OK)
	gets(t, x, 5, 2, resvFrom(2, 2, 1, 3, 2), api.OK)
	gets(t, x, 5, 0, pathFrom(0, 3, w), api.OK)
	is(t, "Tick", x.Tick(12), api.OK)
	sends(t, x,
		send(2, tearFrom(1, message.PathTear, 2)), send(0, tearFrom(1, message.ResvTear, 3)),
		send(2, pathFrom(1, 1, w)), send(0, resvFrom(1, 1, 1, 16, 4)), send(2, pathFrom(1, 3, w)))
	if a := x.Base()[0]; a.Seq != 1 || a.Free[5] != 7 {
		t.Errorf("advertised: %+v", a)
	}
	uses(t, x, 16, 18)
	binds(t, x, row(16, 2, 3))
}

// P19.5

func TestLink(t *testing.T) {
	w := want(1, 5)
	x := nodeOf(t, 1)
	passes(t, x, 4, w)
	gets(t, x, 0, 0, pathFrom(0, 2, w), api.OK)
	passes(t, x, 3, w)
	own := api.Key{Tail: 2, Tunnel: 1, Head: 1, Lsp: 1}
	other := api.Key{Tail: 3, Tunnel: 1, Head: 4, Lsp: 1}
	is(t, "Start", x.Start(0, own, w, []int{1, 2}), api.OK)
	gets(t, x, 0, 2, message.Message{Type: message.Resv, Key: own, From: 2, Want: api.Want{Bw: 1}, Label: 30, Serial: 1}, api.OK)
	is(t, "Map", x.Map(1, own), api.OK)
	gets(t, x, 0, 4, message.Message{Type: message.Path, Key: other, From: 4, Want: w, Route: []int{4, 1, 3}, Record: []int{4}}, api.OK)
	gets(t, x, 0, 3, message.Message{Type: message.Resv, Key: other, From: 3, Want: api.Want{Bw: 1}, Label: 3, Serial: 1}, api.OK)
	x.Sends()
	x.Events()
	before := look(x)
	for _, to := range []int{1, 4, 5, 15, 16, -1, math.MaxInt, math.MinInt} {
		is(t, "Link", x.Link(to, false), api.ErrNone)
		is(t, "Link", x.Link(to, true), api.ErrNone)
	}
	is(t, "Link", x.Link(2, true), api.OK) // it is up
	is(t, "Link", x.Link(0, false), api.OK)
	is(t, "Link", x.Link(0, true), api.OK)
	stays(t, x, before)
	is(t, "Link", x.Link(2, false), api.OK)
	sends(t, x,
		send(0, fault(message.PathErr, 2, 1, api.ErrDown)),
		send(0, fault(message.PathErr, 3, 1, api.ErrDown)), send(0, tearFrom(1, message.ResvTear, 3)),
		send(0, fault(message.PathErr, 4, 1, api.ErrDown)), send(0, tearFrom(1, message.ResvTear, 4)))
	tells(t, x, Event{Failed, own, api.ErrDown})
	has(t, x,
		at(2, w, 1, 10), with(at(3, w, 1, 10), 17, 0, 0, 1), with(at(4, w, 1, 10), 16, 0, 0, 1),
		soft.State{Key: own, Want: w, Route: []int{1, 2}, Until: soft.Never, Seen: 1},
		soft.State{Key: other, Want: w, Route: []int{4, 1, 3}, At: 1, Until: 10, In: 18, Out: 3, Keep: 10, Seen: 1})
	binds(t, x, row(18, 3, 3))
	mapped(t, x)
	uses(t, x, 16, 17, 18)
	holds(t, x, 2, 10)
	holds(t, x, 3, 14, admit.Entry{Key: other, Want: w})
	before = look(x)
	is(t, "Link", x.Link(2, false), api.OK) // it is down
	stays(t, x, before)
	// Nothing may be reserved until it is up again; the label is kept.
	gets(t, x, 1, 2, resvFrom(2, 4, 1, 3, 2), api.ErrDown)
	x.Sends()
	is(t, "Link", x.Link(2, true), api.OK)
	quiet(t, x)
	gets(t, x, 1, 2, resvFrom(2, 4, 1, 5+11, 3), api.OK)
	sends(t, x, send(0, resvFrom(1, 4, 1, 16, 4)))
	binds(t, x, row(16, 2, 16), row(18, 3, 3))
	is(t, "Link", x.Link(2, false), api.OK) // those without a reservation are told again
	sends(t, x,
		send(0, fault(message.PathErr, 2, 1, api.ErrDown)), send(0, fault(message.PathErr, 3, 1, api.ErrDown)),
		send(0, fault(message.PathErr, 4, 1, api.ErrDown)), send(0, tearFrom(1, message.ResvTear, 4)))
	tells(t, x, Event{Failed, own, api.ErrDown})
}

func TestRestart(t *testing.T) {
	w := want(1, 5)
	x := through(t, w)
	own := api.Key{Tail: 2, Tunnel: 1, Head: 1, Lsp: 1}
	is(t, "Start", x.Start(0, own, w, []int{1, 2}), api.OK)
	gets(t, x, 0, 2, message.Message{Type: message.Resv, Key: own, From: 2, Want: api.Want{Bw: 1}, Label: 30, Serial: 1}, api.OK)
	is(t, "Map", x.Map(7, own), api.OK)
	is(t, "Link", x.Link(3, false), api.OK)
	is(t, "Tick", x.Tick(1), api.OK)
	base := x.Base()
	is(t, "Restart", x.Restart(), api.OK)
	quiet(t, x)
	has(t, x)
	binds(t, x)
	mapped(t, x)
	uses(t, x)
	holds(t, x, 0, 12)
	holds(t, x, 2, 10)
	holds(t, x, 3, 14)
	if got := x.Base(); !slices.Equal(got, base) || got[0].Seq != 1 || got[4].Up {
		t.Errorf("Base: %v, not %v", got, base)
	}
	// The link to 3 is still down; the serial number and the labels go on.
	k := api.Key{Tail: 3, Tunnel: 1, Head: 4, Lsp: 1}
	gets(t, x, 1, 4, message.Message{Type: message.Path, Key: k, From: 4, Route: []int{4, 1, 3}, Record: []int{4}}, api.ErrDown)
	x.Sends()
	gets(t, x, 1, 0, pathFrom(0, 1, w), api.OK)
	x.Sends()
	gets(t, x, 1, 2, resvFrom(2, 1, 1, 3, 1), api.OK)
	sends(t, x, send(0, resvFrom(1, 1, 1, 17, 2)))
	has(t, x, with(at(1, w, 1, 11), 17, 3, 11, 1))
	// A tunnel is not mapped any more, even to a path of the same key.
	is(t, "Start", x.Start(1, own, w, []int{1, 2}), api.OK)
	gets(t, x, 1, 2, message.Message{Type: message.Resv, Key: own, From: 2, Want: api.Want{Bw: 1}, Label: 31, Serial: 1}, api.OK)
	gets(t, x, 1, 2, message.Message{Type: message.Resv, Key: own, From: 2, Want: api.Want{Bw: 1}, Label: 32, Serial: 2}, api.OK)
	mapped(t, x)
	// A new node stays as it is.
	x = nodeOf(t, 1)
	before := look(x)
	is(t, "Restart", x.Restart(), api.OK)
	stays(t, x, before)
}

// P19.6

func TestMap(t *testing.T) {
	w := want(1, 5)
	x := begins(t, w)
	is(t, "Start", x.Start(0, key(2), w, route()), api.OK)
	x.Sends()
	before := look(x)
	for _, k := range []api.Key{key(2), key(3), {}, {Tail: -1}} {
		for _, tunnel := range []int{1, 0, 65536} {
			is(t, "Map", x.Map(tunnel, k), api.ErrNone)
		}
	}
	for _, tunnel := range []int{0, -1, 65536, math.MinInt, math.MaxInt} {
		is(t, "Map", x.Map(tunnel, key(1)), api.ErrArg)
	}
	stays(t, x, before)
	for _, tunnel := range []int{65535, 1, 7} {
		is(t, "Map", x.Map(tunnel, key(1)), api.OK)
	}
	mapped(t, x, row(1, 1, 20), row(7, 1, 20), row(65535, 1, 20))
	gets(t, x, 0, 1, resvFrom(1, 2, 1, 40, 1), api.OK)
	is(t, "Map", x.Map(7, key(2)), api.OK) // in place of the other one
	mapped(t, x, row(1, 1, 20), row(7, 1, 40), row(65535, 1, 20))
	// Each of them follows its own path.
	gets(t, x, 1, 1, resvFrom(1, 1, 1, 50, 2), api.OK)
	mapped(t, x, row(1, 1, 50), row(7, 1, 40), row(65535, 1, 50))
	gets(t, x, 1, 1, tearFrom(1, message.ResvTear, 2), api.OK)
	mapped(t, x, row(1, 1, 50), row(65535, 1, 50))
	is(t, "Map", x.Map(7, key(2)), api.ErrNone)
	gets(t, x, 1, 1, resvFrom(1, 2, 1, 60, 2), api.OK)
	mapped(t, x, row(1, 1, 50), row(65535, 1, 50))
	// One that is not mapped any more does not follow either.
	is(t, "Unmap", x.Unmap(1), api.OK)
	mapped(t, x, row(65535, 1, 50))
	is(t, "Unmap", x.Unmap(1), api.ErrNone)
	for _, tunnel := range []int{2, 7, 0, -1, 65536} {
		is(t, "Unmap", x.Unmap(tunnel), api.ErrNone)
	}
	gets(t, x, 1, 1, resvFrom(1, 1, 1, 70, 3), api.OK)
	mapped(t, x, row(65535, 1, 70))
	gets(t, x, 1, 1, tearFrom(1, message.ResvTear, 1), api.OK)
	mapped(t, x)
	// Paths that begin elsewhere.
	for _, x := range []*Node{through(t, w), ends(t, w)} {
		is(t, "Map", x.Map(1, key(1)), api.ErrNone)
		mapped(t, x)
	}
}

func TestMapFull(t *testing.T) {
	x := begins(t, want(1, 5))
	for tunnel := 1; tunnel <= api.MaxStates; tunnel++ {
		is(t, "Map", x.Map(tunnel, key(1)), api.OK)
	}
	is(t, "Map", x.Map(65, key(1)), api.ErrFull)
	is(t, "Map", x.Map(0, key(1)), api.ErrArg)
	is(t, "Map", x.Map(65, key(2)), api.ErrNone)
	is(t, "Map", x.Map(64, key(1)), api.OK)
	is(t, "Unmap", x.Unmap(9), api.OK)
	// What was not mapped stays so when the others follow the path.
	gets(t, x, 1, 1, resvFrom(1, 1, 1, 30, 2), api.OK)
	if _, l := x.Rows(); len(l) != api.MaxStates-1 || l[62] != row(64, 1, 30) {
		t.Errorf("tunnels: %v", l)
	}
	is(t, "Unmap", x.Unmap(65), api.ErrNone)
	is(t, "Map", x.Map(65, key(1)), api.OK)
	gets(t, x, 1, 1, tearFrom(1, message.ResvTear, 1), api.OK)
	mapped(t, x)
}

func TestStep(t *testing.T) {
	x := begins(t, want(1, 5))
	is(t, "Map", x.Map(7, key(1)), api.OK)
	y := through(t, want(1, 5))
	for i, c := range []struct {
		x    *Node
		p    api.Packet
		to   int
		want api.Packet
		e    api.Errno
	}{
		{x, api.Packet{Tunnel: 7, Ttl: 9, Payload: "a"}, 1, api.Packet{Stack: []api.Entry{{Label: 20, Ttl: 8}}, Tunnel: 7, Ttl: 8, Payload: "a"}, api.OK},
		{x, api.Packet{Tunnel: 8, Ttl: 9}, 0, api.Packet{}, api.ErrNone},
		{x, api.Packet{Tunnel: 7}, 0, api.Packet{}, api.ErrTtl},
		{x, api.Packet{Tunnel: 7, Ttl: 256}, 0, api.Packet{}, api.ErrArg},
		{y, api.Packet{Stack: []api.Entry{{Label: 16, Ttl: 8}}, Tunnel: 7, Ttl: 8}, 2, api.Packet{Tunnel: 7, Ttl: 7}, api.OK},
		{y, api.Packet{Stack: []api.Entry{{Label: 17, Ttl: 8}}, Ttl: 8}, 0, api.Packet{}, api.ErrLabel},
		{y, api.Packet{Tunnel: 1, Ttl: 8}, 0, api.Packet{}, api.ErrNone},
	} {
		if to, p, e := c.x.Step(c.p); to != c.to || len(p.Stack)+len(c.want.Stack) > 0 && !slices.Equal(p.Stack, c.want.Stack) || p.Tunnel != c.want.Tunnel || p.Ttl != c.want.Ttl || p.Payload != c.want.Payload || e != c.e {
			t.Errorf("number %d: %d, %v, %d", i, to, p, e)
		}
	}
}

func TestLearn(t *testing.T) {
	x := nodeOf(t, 1)
	all := x.Base()
	news := func(i, seq int) tedb.Advert {
		a := all[i]
		a.Seq, a.Up, a.Free = seq, false, [8]uint64{3, 2, 1}
		return a
	}
	unknown := news(1, 5)
	unknown.Link.To = 2
	wrong := news(3, 5)
	wrong.Free[7] = 9
	x.Learn([]tedb.Advert{news(0, 9), news(2, 9), news(4, 9), unknown, wrong, news(1, 2), news(5, 4), news(1, 1)})
	all[1], all[5] = news(1, 2), news(5, 4)
	if got := x.Base(); !slices.Equal(got, all) {
		t.Errorf("Base: %v, not %v", got, all)
	}
	x.Learn(nil)
	x.Learn([]tedb.Advert{news(1, 3)})
	all[1] = news(1, 3)
	if got := x.Base(); !slices.Equal(got, all) {
		t.Errorf("Base: %v, not %v", got, all)
	}
	quiet(t, x)
}

// P19.7, with R6

func TestOnce(t *testing.T) {
	x := nodeOf(t, 0)
	is(t, "Start", x.Start(0, key(1), want(1, 5), route()), api.OK)
	gets(t, x, 0, 1, resvFrom(1, 1, 1, 20, 1), api.OK)
	gets(t, x, 0, 1, fault(message.PathErr, 1, 2, api.ErrRoom), api.OK)
	l, m := x.Sends(), x.Events()
	quiet(t, x)
	is(t, "Stop", x.Stop(key(1)), api.OK)
	is(t, "Start", x.Start(0, key(2), want(1, 5), route()), api.OK)
	gets(t, x, 0, 1, fault(message.PathErr, 2, 2, api.ErrRoom), api.OK)
	sends(t, x, send(1, tearFrom(0, message.PathTear, 1)), send(1, pathFrom(0, 2, want(1, 5))))
	tells(t, x, Event{Failed, key(2), api.ErrRoom})
	conf := fault(message.ResvConf, 1, 0, api.OK)
	if !reflect.DeepEqual(l, []Send{send(1, pathFrom(0, 1, want(1, 5))), send(1, conf)}) || !slices.Equal(m, []Event{{Up, key(1), api.OK}, {Failed, key(1), api.ErrRoom}}) {
		t.Errorf("what was told before: %+v, %+v", l, m)
	}
}

func TestStatesAreInOrder(t *testing.T) {
	x := nodeOf(t, 0)
	keys := []api.Key{{Tail: 2, Tunnel: 9}, {Tail: 2, Tunnel: 1, Lsp: 2}, {Tail: 1, Tunnel: 9, Lsp: 5}, {Tail: 2, Tunnel: 1, Lsp: 1}}
	for _, k := range keys {
		is(t, "Start", x.Start(0, k, want(1, 5), route()[:k.Tail+1]), api.OK)
	}
	var got []api.Key
	for _, s := range x.States() {
		got = append(got, s.Key)
	}
	if want := []api.Key{keys[3], keys[1], keys[2], keys[0]}; !slices.Equal(got, want) {
		t.Errorf("States: %v, not %v", got, want)
	}
}

func TestArgumentsAreNotKept(t *testing.T) {
	l := network()
	x := New(0, 5, l, 16, 99)
	y := New(1, 5, l, 16, 99)
	z := New(2, 5, l, 16, 99)
	clear(l)
	r := route()
	is(t, "Start", x.Start(0, key(1), want(1, 5), r), api.OK)
	m := pathFrom(0, 1, want(1, 5))
	gets(t, y, 0, 0, m, api.OK)
	n := pathFrom(1, 1, want(1, 5))
	gets(t, z, 0, 1, n, api.OK)
	clear(r)
	clear(m.Route)
	clear(m.Record)
	clear(n.Route)
	clear(n.Record)
	sends(t, x, send(1, pathFrom(0, 1, want(1, 5))))
	sends(t, y, send(2, pathFrom(1, 1, want(1, 5))))
	has(t, x, at(1, want(1, 5), 0, soft.Never))
	has(t, y, at(1, want(1, 5), 1, 10))
	has(t, z, with(at(1, want(1, 5), 2, 10), api.Null, 0, 0, 0))
	holds(t, y, 2, 10)
	// Nor are they changed.
	m = pathFrom(0, 2, want(1, 5))
	gets(t, y, 0, 0, m, api.OK)
	gets(t, y, 0, 2, resvFrom(2, 2, 1, 3, 1), api.OK)
	if !reflect.DeepEqual(m, pathFrom(0, 2, want(1, 5))) {
		t.Errorf("changed: %+v", m)
	}
	a := tedb.Advert{Link: network()[1], Seq: 1}
	news := []tedb.Advert{a}
	y.Learn(news)
	clear(news)
	if got := y.Base()[1]; got != a {
		t.Errorf("kept: %+v", got)
	}
}

func TestResultsAreNew(t *testing.T) {
	x := through(t, want(1, 5))
	for range 2 {
		is(t, "Tick", x.Tick(3), api.OK)
	}
	before := look(x)
	l := x.Sends()
	if len(l) != 4 {
		t.Fatalf("Sends: %+v", l)
	}
	// Each list of the messages is one of its own.
	_ = append(l[0].M.Record, 9)
	clear(l[0].M.Record)
	if !slices.Equal(l[0].M.Route, route()) || !slices.Equal(l[2].M.Route, route()) || !slices.Equal(l[2].M.Record, []int{0, 1}) {
		t.Errorf("changed: %+v", l)
	}
	clear(l[0].M.Route)
	if !slices.Equal(l[2].M.Route, route()) {
		t.Errorf("changed: %+v", l)
	}
	clear(l)
	states := x.States()
	clear(states[0].Route)
	clear(states)
	in, out := x.Rows()
	clear(in)
	clear(out)
	clear(x.Labels())
	entries, _, _ := x.Held(2)
	clear(entries)
	clear(x.Base())
	stays(t, x, before)
	// What was returned does not change later either.
	is(t, "Tick", x.Tick(3), api.OK)
	l, states, in, entries = x.Sends(), x.States(), nil, nil
	in, _ = x.Rows()
	entries, _, _ = x.Held(2)
	base := x.Base()
	gets(t, x, 4, 2, tearFrom(2, message.ResvTear, 1), api.OK)
	is(t, "Link", x.Link(2, false), api.OK)
	is(t, "Tick", x.Tick(6), api.OK)
	if l[0].M.Type != message.Path || !reflect.DeepEqual(states, before.states) || !slices.Equal(in, before.labels) || !slices.Equal(entries, before.held[2]) || !slices.Equal(base, before.base) {
		t.Errorf("changed: %+v, %+v, %v, %v, %v", l, states, in, entries, base)
	}
	// Events, too.
	y := begins(t, want(1, 5))
	gets(t, y, 0, 1, fault(message.PathErr, 1, 2, api.ErrRoom), api.OK)
	events := y.Events()
	gets(t, y, 0, 1, fault(message.PathErr, 1, 2, api.ErrDown), api.OK)
	if events[0].Code != api.ErrRoom {
		t.Errorf("changed: %v", events)
	}
	clear(events)
	tells(t, y, Event{Failed, key(1), api.ErrDown})
}
