package node

import (
	"math"
	"testing"

	"viaduct/api"
	"viaduct/message"
	"viaduct/soft"
)

// changed is a message after a change.
func changed(m message.Message, change func(m *message.Message)) message.Message {
	change(&m)
	return m
}

// refuses asks for a Path to be refused, without any change.
func refuses(t *testing.T, x *Node, now, from int, m message.Message, e api.Errno) {
	t.Helper()
	before := look(x)
	gets(t, x, now, from, m, e)
	sends(t, x, send(from, message.Message{Type: message.PathErr, Key: m.Key, Where: x.id, Code: int(e)}))
	stays(t, x, before)
}

// ignores asks for a message that only has an error as its answer.
func ignores(t *testing.T, x *Node, now, from int, m message.Message, e api.Errno) {
	t.Helper()
	before := look(x)
	gets(t, x, now, from, m, e)
	stays(t, x, before)
}

// P19.3

func TestRecvArguments(t *testing.T) {
	w := want(1, 5)
	x := through(t, w)
	for _, now := range badTicks {
		ignores(t, x, now, 0, pathFrom(0, 1, w), api.ErrArg)
		ignores(t, x, now, 0, pathFrom(0, 2, w), api.ErrArg)
		ignores(t, x, now, 2, resvFrom(2, 1, 1, 3, 2), api.ErrArg)
		ignores(t, x, now, 2, fault(message.PathErr, 1, 2, api.ErrRoom), api.ErrArg)
	}
	for _, m := range []message.Message{
		{}, {Type: 8, Key: key(1)}, {Type: -1, Key: key(1)},
		changed(pathFrom(0, 1, w), func(m *message.Message) { m.Ttl = 256 }), changed(pathFrom(0, 1, w), func(m *message.Message) { m.Ttl = -1 }),
		changed(pathFrom(0, 1, w), func(m *message.Message) { m.Label = 3 }), changed(pathFrom(0, 1, w), func(m *message.Message) { m.Want.Setup = 8 }),
		changed(pathFrom(0, 1, w), func(m *message.Message) { m.Key.Tunnel = 65536 }), changed(pathFrom(0, 1, w), func(m *message.Message) { m.Route = []int{0, 1, 16} }),
		changed(pathFrom(0, 1, w), func(m *message.Message) { m.Route = make([]int, 17) }), changed(resvFrom(2, 1, 1, 3, 2), func(m *message.Message) { m.Serial = -1 }),
		changed(resvFrom(2, 1, 1, 3, 2), func(m *message.Message) { m.Label = api.MaxLabel + 1 }), changed(resvFrom(2, 1, 1, 3, 2), func(m *message.Message) { m.Want.Hold = 1 }),
		changed(tearFrom(0, message.PathTear, 1), func(m *message.Message) { m.Code = 1 }), changed(fault(message.PathErr, 1, 2, 256), func(m *message.Message) {}),
		changed(fault(message.PathErr, 1, 2, 14), func(m *message.Message) { m.From = 2 }), changed(fault(message.ResvConf, 1, 2, 0), func(m *message.Message) { m.From = 2 }),
	} {
		for _, from := range []int{0, 2} {
			ignores(t, x, 0, from, m, api.ErrArg)
		}
	}
	// 1 itself, a node that there is not, and numbers of none: not near. 3, and 4, with a link in one direction only: near.
	for _, from := range []int{1, 5, 15, -1, 16, math.MinInt, math.MaxInt} {
		ignores(t, x, 0, from, changed(tearFrom(0, message.PathTear, 1), func(m *message.Message) { m.From = from }), api.ErrArg)
		ignores(t, x, 0, from, fault(message.PathErr, 1, 2, api.ErrRoom), api.ErrArg)
	}
	for _, from := range []int{3, 4} {
		ignores(t, x, 0, from, changed(tearFrom(0, message.PathTear, 1), func(m *message.Message) { m.From = from }), api.ErrState)
		ignores(t, x, 0, from, fault(message.PathErr, 1, 2, api.ErrRoom), api.ErrState)
	}
	// From another node than it says.
	for _, m := range []message.Message{pathFrom(0, 1, w), tearFrom(0, message.PathTear, 1), changed(resvErr(0, 1, 0, api.ErrRoom), func(m *message.Message) {})} {
		ignores(t, x, 0, 2, m, api.ErrArg)
	}
	for _, m := range []message.Message{resvFrom(2, 1, 1, 3, 2), tearFrom(2, message.ResvTear, 1)} {
		ignores(t, x, 0, 0, m, api.ErrArg)
	}
	// The greatest tick, any Ttl and any Period will do.
	gets(t, x, lastTick, 0, changed(pathFrom(0, 1, w), func(m *message.Message) { m.Ttl, m.Period = 255, math.MaxUint32 }), api.OK)
	has(t, x, with(at(1, w, 1, soft.Never), 16, 3, 10, 1))
	gets(t, x, lastTick, 2, changed(resvFrom(2, 1, 1, 3, math.MaxUint32), func(m *message.Message) { m.Ttl, m.Period = 9, 1 }), api.OK)
	has(t, x, with(at(1, w, 1, soft.Never), 16, 3, soft.Never, math.MaxUint32))
	quiet(t, x)
}

func TestPath(t *testing.T) {
	w := api.Want{Bw: math.MaxUint64, Setup: 7, Hold: 0, Any: 1, All: 2, None: 4}
	x := nodeOf(t, 1)
	gets(t, x, 5, 0, pathFrom(0, 3, w), api.OK)
	sends(t, x, send(2, pathFrom(1, 3, w)))
	has(t, x, at(3, w, 1, 15))
	uses(t, x)
	binds(t, x)
	holds(t, x, 2, 10)
	// It lives on: at a later tick longer, at an earlier one shorter.
	for _, now := range []int{5, 9, 0, 7} {
		gets(t, x, now, 0, pathFrom(0, 3, w), api.OK)
		quiet(t, x)
		has(t, x, at(3, w, 1, now+10))
	}
	// With a reservation, nothing else changes.
	gets(t, x, 7, 2, resvFrom(2, 3, math.MaxUint64, 3, 1), api.ErrRoom)
	x.Sends()
	passes(t, x, 4, want(1, 5))
	gets(t, x, 8, 0, pathFrom(0, 4, want(1, 5)), api.OK)
	quiet(t, x)
	has(t, x, with(at(3, w, 1, 17), 0, 0, 0, 1), with(at(4, want(1, 5), 1, 18), 16, 3, 10, 1))
	// At the tail.
	x = nodeOf(t, 2)
	gets(t, x, 5, 1, pathFrom(1, 3, w), api.OK)
	sends(t, x, send(1, resvFrom(2, 3, math.MaxUint64, api.Null, 1)))
	has(t, x, with(at(3, w, 2, 15), api.Null, 0, 0, 0))
	uses(t, x)
	gets(t, x, 6, 1, pathFrom(1, 3, w), api.OK)
	quiet(t, x)
	has(t, x, with(at(3, w, 2, 16), api.Null, 0, 0, 0))
	gets(t, x, 6, 1, pathFrom(1, 4, want(1, 5)), api.OK)
	sends(t, x, send(1, resvFrom(2, 4, 1, api.Null, 2)))
	// A link that is down from the upstream node on does not matter, nor that there is none back to it.
	x = nodeOf(t, 1)
	is(t, "Link", x.Link(0, false), api.OK)
	gets(t, x, 5, 0, pathFrom(0, 3, w), api.OK)
	k := api.Key{Tail: 3, Tunnel: 1, Head: 4, Lsp: 1}
	gets(t, x, 5, 4, message.Message{Type: message.Path, Key: k, From: 4, Want: w, Route: []int{4, 1, 3}, Record: []int{4}}, api.OK)
	sends(t, x, send(2, pathFrom(1, 3, w)), send(3, message.Message{Type: message.Path, Key: k, From: 1, Want: w, Route: []int{4, 1, 3}, Record: []int{4, 1}}))
}

func TestPathRefused(t *testing.T) {
	w := want(1, 5)
	x := through(t, w)
	for i, c := range []struct {
		change func(m *message.Message)
		e      api.Errno
	}{
		{func(m *message.Message) { m.Want.Hold = 6 }, api.ErrRoute},
		{func(m *message.Message) { m.Route = nil }, api.ErrRoute},
		{func(m *message.Message) { m.Route = []int{1} }, api.ErrRoute},
		{func(m *message.Message) { m.Route, m.Key.Tail = []int{0, 1, 0}, 0 }, api.ErrRoute},
		{func(m *message.Message) { m.Route = []int{0, 1, 2, 1, 2} }, api.ErrRoute},
		{func(m *message.Message) { m.Route = []int{0, 1, 3} }, api.ErrRoute},
		{func(m *message.Message) { m.Key.Tail = 3 }, api.ErrRoute},
		{func(m *message.Message) { m.Key.Head = 4 }, api.ErrRoute},
		{func(m *message.Message) { m.Route = []int{0, 2} }, api.ErrRoute},
		{func(m *message.Message) { m.Route, m.Key.Head, m.Record = []int{1, 2}, 1, nil }, api.ErrRoute},
		{func(m *message.Message) { m.Route, m.Key.Head, m.Record = []int{1, 0, 2}, 1, nil }, api.ErrRoute},
		{func(m *message.Message) { m.Route, m.Key.Head, m.Record = []int{4, 1, 2}, 4, []int{4} }, api.ErrRoute},
		{func(m *message.Message) { m.Route, m.Record = []int{0, 4, 1, 2}, []int{0, 4} }, api.ErrRoute},
		{func(m *message.Message) { m.Record = nil }, api.ErrLoop},
		{func(m *message.Message) { m.Record = []int{2} }, api.ErrLoop},
		{func(m *message.Message) { m.Record = []int{0, 1} }, api.ErrLoop},
		{func(m *message.Message) { m.Record = []int{4, 0} }, api.ErrLoop},
		{func(m *message.Message) { m.Want.Bw = 2 }, api.ErrHave},
		{func(m *message.Message) { m.Want.Setup = 6 }, api.ErrHave},
		{func(m *message.Message) { m.Want.Hold = 4 }, api.ErrHave},
		{func(m *message.Message) { m.Want.Any = 1 }, api.ErrHave},
		{func(m *message.Message) { m.Want.All = 1 }, api.ErrHave},
		{func(m *message.Message) { m.Want.None = 1 }, api.ErrHave},
		{func(m *message.Message) { m.Route = []int{0, 1, 3, 2} }, api.ErrHave},
		{func(m *message.Message) { m.Route = []int{0, 1, 4, 2} }, api.ErrHave}, // there is no link to 4
		{func(m *message.Message) { m.Key.Lsp, m.Key.Tail, m.Route = 2, 4, []int{0, 1, 4} }, api.ErrRoute},
		{func(m *message.Message) { m.Key.Lsp, m.Key.Tail, m.Route = 2, 9, []int{0, 1, 9} }, api.ErrRoute},
		{func(m *message.Message) { m.Key.Lsp, m.Route, m.Record = 2, []int{0, 1, 4, 2}, nil }, api.ErrLoop},
		{func(m *message.Message) { m.Want.Hold, m.Record = 6, nil }, api.ErrRoute},
		{func(m *message.Message) { m.Want.Bw, m.Record = 2, nil }, api.ErrLoop},
	} {
		t.Logf("number %d", i)
		m := changed(pathFrom(0, 1, w), c.change)
		refuses(t, x, 5, 0, m, c.e)
	}
	// From a neighbor that no link leads from.
	refuses(t, x, 5, 3, message.Message{Type: message.Path, Key: api.Key{Tail: 2, Head: 3}, From: 3, Want: w, Route: []int{3, 1, 2}, Record: []int{3}}, api.ErrRoute)
	// The link downstream is down: that does not matter for a path that is there already.
	is(t, "Link", x.Link(2, false), api.OK)
	x.Sends()
	refuses(t, x, 5, 0, pathFrom(0, 2, w), api.ErrDown)
	refuses(t, x, 5, 0, pathFrom(0, 1, want(2, 5)), api.ErrHave)
	gets(t, x, 5, 0, pathFrom(0, 1, w), api.OK)
	quiet(t, x)
	has(t, x, with(at(1, w, 1, 15), 16, 0, 0, 1))
	// A path that begins here does not come from elsewhere.
	x = nodeOf(t, 0)
	is(t, "Start", x.Start(0, key(1), w, route()), api.OK)
	x.Sends()
	refuses(t, x, 5, 1, changed(pathFrom(1, 1, w), func(m *message.Message) { m.Record = nil }), api.ErrRoute)
}

func TestPathFull(t *testing.T) {
	w := want(0, 5)
	x := nodeOf(t, 1)
	for tunnel := range api.MaxStates {
		gets(t, x, 0, 0, pathFrom(0, tunnel, w), api.OK)
	}
	x.Sends()
	refuses(t, x, 1, 0, pathFrom(0, 64, w), api.ErrFull)
	refuses(t, x, 1, 0, changed(pathFrom(0, 64, w), func(m *message.Message) { m.Route, m.Key.Tail = []int{0, 1}, 1 }), api.ErrFull)
	refuses(t, x, 1, 0, changed(pathFrom(0, 64, w), func(m *message.Message) { m.Route, m.Key.Tail = []int{0, 1, 4}, 4 }), api.ErrRoute)
	gets(t, x, 1, 0, pathFrom(0, 63, w), api.OK)
	quiet(t, x)
	is(t, "Link", x.Link(2, false), api.OK)
	x.Sends()
	refuses(t, x, 1, 0, pathFrom(0, 64, w), api.ErrDown)
	is(t, "Link", x.Link(2, true), api.OK)
	gets(t, x, 1, 0, tearFrom(0, message.PathTear, 5), api.OK)
	x.Sends()
	gets(t, x, 1, 0, pathFrom(0, 64, w), api.OK)
	// All of them may have a reservation, and a label.
	for _, s := range x.States() {
		gets(t, x, 1, 2, resvFrom(2, s.Key.Tunnel, 0, 3, 1), api.OK)
	}
	if l, _ := x.Rows(); len(l) != api.MaxStates {
		t.Errorf("%d labels are bound", len(l))
	}
}

func TestResv(t *testing.T) {
	w := api.Want{Bw: 4, Setup: 5, Hold: 3, Any: 1}
	x := nodeOf(t, 1)
	gets(t, x, 0, 0, pathFrom(0, 1, w), api.OK)
	x.Sends()
	gets(t, x, 2, 2, resvFrom(2, 1, 4, 99, 7), api.OK)
	sends(t, x, send(0, resvFrom(1, 1, 4, 16, 1)))
	tells(t, x)
	has(t, x, with(at(1, w, 1, 10), 16, 99, 12, 7))
	binds(t, x, row(16, 2, 99))
	uses(t, x, 16)
	holds(t, x, 2, 10, entry(1, w))
	holds(t, x, 0, 12)
	// Once more, with another label: nobody else has to know.
	for i, label := range []int{100, api.Null, api.MaxLabel, 16} {
		gets(t, x, 3+i, 2, resvFrom(2, 1, 4, label, 8+2*i), api.OK)
		quiet(t, x)
		has(t, x, with(at(1, w, 1, 10), 16, label, 13+i, 8+2*i))
		binds(t, x, row(16, 2, label))
		holds(t, x, 2, 10, entry(1, w))
	}
	// What is kept may be kept for less.
	gets(t, x, 0, 2, resvFrom(2, 1, 4, 17, 15), api.OK)
	has(t, x, with(at(1, w, 1, 10), 16, 17, 10, 15))
	// The next path has the next label, and the next serial number.
	gets(t, x, 0, 0, pathFrom(0, 2, w), api.OK)
	x.Sends()
	gets(t, x, 0, 2, resvFrom(2, 2, 4, 99, 1), api.OK)
	sends(t, x, send(0, resvFrom(1, 2, 4, 17, 2)))
	// At the head.
	x = nodeOf(t, 0)
	is(t, "Start", x.Start(0, key(1), w, route()), api.OK)
	x.Sends()
	gets(t, x, 2, 1, resvFrom(1, 1, 4, api.Null, 1), api.OK)
	sends(t, x, send(1, fault(message.ResvConf, 1, 0, api.OK)))
	tells(t, x, Event{Up, key(1), api.OK})
	has(t, x, with(at(1, w, 0, soft.Never), 0, api.Null, 12, 1))
	binds(t, x)
	uses(t, x)
	holds(t, x, 1, 11, entry(1, w))
	is(t, "Map", x.Map(5, key(1)), api.OK)
	gets(t, x, 3, 1, resvFrom(1, 1, 4, 44, 2), api.OK)
	quiet(t, x)
	has(t, x, with(at(1, w, 0, soft.Never), 0, 44, 13, 2))
	mapped(t, x, row(5, 1, 44))
	binds(t, x)
}

func TestResvState(t *testing.T) {
	w := want(4, 5)
	x := through(t, w)
	gets(t, x, 0, 0, pathFrom(0, 2, w), api.OK)
	x.Sends()
	for _, tunnel := range []int{1, 2} {
		serial := 2 - tunnel // the last one: 1, and 0 without any
		good := resvFrom(2, tunnel, 4, 3, serial+1)
		ignores(t, x, 1, 0, changed(good, func(m *message.Message) { m.From = 0 }), api.ErrState)
		ignores(t, x, 1, 3, changed(good, func(m *message.Message) { m.From = 3 }), api.ErrState)
		for _, change := range []func(m *message.Message){
			func(m *message.Message) { m.Key.Tunnel = 3 }, func(m *message.Message) { m.Key.Lsp = 2 }, func(m *message.Message) { m.Key.Tail = 3 }, func(m *message.Message) { m.Key.Head = 4 },
			func(m *message.Message) { m.Want.Bw = 3 }, func(m *message.Message) { m.Want.Bw = 5 }, func(m *message.Message) { m.Want.Bw = 0 },
			func(m *message.Message) { m.Label = 0 }, func(m *message.Message) { m.Label = 1 }, func(m *message.Message) { m.Label = 2 }, func(m *message.Message) { m.Label = 4 }, func(m *message.Message) { m.Label = 15 },
			func(m *message.Message) { m.Serial = serial }, func(m *message.Message) { m.Serial = 0 },
		} {
			ignores(t, x, 1, 2, changed(good, change), api.ErrState)
		}
		gets(t, x, 1, 2, good, api.OK)
		x.Sends()
		ignores(t, x, 2, 2, good, api.ErrState)
	}
	// At the tail, there is nobody to reserve.
	x = ends(t, w)
	ignores(t, x, 0, 1, resvFrom(1, 1, 4, 3, 1), api.ErrState)
}

func TestResvFails(t *testing.T) {
	w := want(4, 5)
	// ErrRoom, and the same error again only for a new serial number.
	x := through(t, want(7, 5))
	gets(t, x, 0, 0, pathFrom(0, 2, w), api.OK)
	x.Sends()
	for serial := 3; serial < 5; serial++ {
		gets(t, x, 1, 2, resvFrom(2, 2, 4, 3, serial), api.ErrRoom)
		sends(t, x, send(0, fault(message.PathErr, 2, 1, api.ErrRoom)), send(2, resvErr(1, 2, 1, api.ErrRoom)))
		tells(t, x)
		has(t, x, with(at(1, want(7, 5), 1, 10), 16, 3, 10, 1), with(at(2, w, 1, 10), 0, 0, 0, serial))
		binds(t, x, row(16, 2, 3))
		uses(t, x, 16)
		holds(t, x, 2, 10, entry(1, want(7, 5)))
		ignores(t, x, 1, 2, resvFrom(2, 2, 4, 3, serial), api.ErrState)
	}
	// ErrDown: the downstream node is not told.
	is(t, "Link", x.Link(2, false), api.OK)
	x.Sends()
	gets(t, x, 1, 2, resvFrom(2, 2, 4, 3, 9), api.ErrDown)
	sends(t, x, send(0, fault(message.PathErr, 2, 1, api.ErrDown)))
	tells(t, x)
	has(t, x, with(at(1, want(7, 5), 1, 10), 16, 0, 0, 1), with(at(2, w, 1, 10), 0, 0, 0, 9))
	// At the head.
	x = begins(t, want(8, 5))
	is(t, "Start", x.Start(0, key(2), w, route()), api.OK)
	x.Sends()
	gets(t, x, 1, 1, resvFrom(1, 2, 4, 3, 1), api.ErrRoom)
	sends(t, x, send(1, resvErr(0, 2, 0, api.ErrRoom)))
	tells(t, x, Event{Failed, key(2), api.ErrRoom})
	has(t, x, with(at(1, want(8, 5), 0, soft.Never), 0, 20, 10, 1), with(at(2, w, 0, soft.Never), 0, 0, 0, 1))
	is(t, "Link", x.Link(1, false), api.OK)
	x.Events()
	gets(t, x, 1, 1, resvFrom(1, 2, 4, 3, 2), api.ErrDown)
	sends(t, x)
	tells(t, x, Event{Failed, key(2), api.ErrDown})
}

func TestResvLabels(t *testing.T) {
	w := want(4, 5)
	x := New(1, 5, network(), 16, 17)
	passes(t, x, 1, w)
	passes(t, x, 2, w)
	gets(t, x, 0, 0, pathFrom(0, 3, w), api.OK)
	gets(t, x, 0, 0, pathFrom(0, 4, want(99, 5)), api.OK)
	own := api.Key{Tail: 2, Tunnel: 5, Head: 1, Lsp: 1}
	is(t, "Start", x.Start(0, own, want(0, 5), []int{1, 2}), api.OK)
	x.Sends()
	// Whether there is room does not matter without a label.
	for tunnel, bw := range map[int]uint64{3: 4, 4: 99} {
		gets(t, x, 1, 2, resvFrom(2, tunnel, bw, 3, 1), api.ErrLabel)
		sends(t, x, send(0, fault(message.PathErr, tunnel, 1, api.ErrLabel)), send(2, resvErr(1, tunnel, 1, api.ErrLabel)))
		tells(t, x)
	}
	has(t, x, with(at(1, w, 1, 10), 16, 3, 10, 1), with(at(2, w, 1, 10), 17, 3, 10, 1), with(at(3, w, 1, 10), 0, 0, 0, 1), with(at(4, want(99, 5), 1, 10), 0, 0, 0, 1), soft.State{Key: own, Want: want(0, 5), Route: []int{1, 2}, Until: soft.Never})
	// The head needs none.
	gets(t, x, 1, 2, message.Message{Type: message.Resv, Key: own, From: 2, Label: 3, Serial: 1}, api.OK)
	tells(t, x, Event{Up, own, api.OK})
	x.Sends()
	// A state keeps its label without a reservation, and a tail needs none either.
	gets(t, x, 1, 2, tearFrom(2, message.ResvTear, 1), api.OK)
	x.Sends()
	gets(t, x, 1, 2, resvFrom(2, 1, 4, 3, 2), api.OK)
	sends(t, x, send(0, resvFrom(1, 1, 4, 16, 3)))
	end := api.Key{Tail: 1, Tunnel: 6, Lsp: 1}
	gets(t, x, 1, 0, message.Message{Type: message.Path, Key: end, From: 0, Route: []int{0, 1}, Record: []int{0}}, api.OK)
	x.Sends()
	// A label that was released is not allocated again.
	gets(t, x, 1, 0, tearFrom(0, message.PathTear, 2), api.OK)
	x.Sends()
	uses(t, x, 16)
	gets(t, x, 1, 2, resvFrom(2, 3, 4, 3, 2), api.ErrLabel)
	x.Sends()
	is(t, "Restart", x.Restart(), api.OK)
	gets(t, x, 1, 0, pathFrom(0, 3, w), api.OK)
	x.Sends()
	gets(t, x, 1, 2, resvFrom(2, 3, 4, 3, 2), api.ErrLabel)
}

func TestPreemption(t *testing.T) {
	// Three paths of 3, then one of 8: two have to go, the ones of the lowest priority first, and are told in the order of keys.
	x := nodeOf(t, 1)
	passes(t, x, 5, want(3, 6))
	passes(t, x, 2, want(3, 7))
	own := api.Key{Tail: 2, Tunnel: 3, Head: 1, Lsp: 1}
	is(t, "Start", x.Start(0, own, want(3, 7), []int{1, 2}), api.OK)
	gets(t, x, 0, 2, message.Message{Type: message.Resv, Key: own, From: 2, Want: api.Want{Bw: 3}, Label: 30, Serial: 1}, api.OK)
	is(t, "Map", x.Map(1, own), api.OK)
	gets(t, x, 0, 0, pathFrom(0, 9, want(7, 3)), api.OK)
	x.Sends()
	x.Events()
	gets(t, x, 1, 2, resvFrom(2, 9, 7, 44, 1), api.OK)
	sends(t, x,
		send(0, fault(message.PathErr, 2, 1, api.ErrPre)), send(0, tearFrom(1, message.ResvTear, 2)),
		send(0, resvFrom(1, 9, 7, 18, 3)))
	tells(t, x, Event{Failed, own, api.ErrPre})
	has(t, x,
		with(at(2, want(3, 7), 1, 10), 17, 0, 0, 1), with(at(5, want(3, 6), 1, 10), 16, 3, 10, 1), with(at(9, want(7, 3), 1, 10), 18, 44, 11, 1),
		soft.State{Key: own, Want: want(3, 7), Route: []int{1, 2}, Until: soft.Never, Seen: 1})
	binds(t, x, row(16, 2, 3), row(18, 2, 44))
	mapped(t, x)
	uses(t, x, 16, 17, 18)
	holds(t, x, 2, 10, entry(5, want(3, 6)), entry(9, want(7, 3)))
	// One that was preempted may come back, with its label, if there is room.
	gets(t, x, 1, 2, resvFrom(2, 2, 3, 3, 2), api.ErrRoom)
	x.Sends()
	gets(t, x, 1, 2, tearFrom(2, message.ResvTear, 9), api.OK)
	x.Sends()
	gets(t, x, 1, 2, resvFrom(2, 2, 3, 50, 3), api.OK)
	sends(t, x, send(0, resvFrom(1, 2, 3, 17, 4)))
	// By the head, too: then both events are its own, the one of the other path first.
	y := begins(t, want(8, 6))
	is(t, "Start", y.Start(0, key(2), want(4, 5), route()), api.OK)
	is(t, "Map", y.Map(1, key(1)), api.OK)
	y.Sends()
	gets(t, y, 1, 1, resvFrom(1, 2, 4, 21, 1), api.OK)
	sends(t, y, send(1, fault(message.ResvConf, 2, 0, api.OK)))
	tells(t, y, Event{Failed, key(1), api.ErrPre}, Event{Up, key(2), api.OK})
	mapped(t, y)
	holds(t, y, 1, 11, entry(2, want(4, 5)))
}

func TestKinShare(t *testing.T) {
	x := through(t, want(6, 5))
	k := key(1)
	k.Lsp = 2
	m := changed(pathFrom(0, 1, want(8, 5)), func(m *message.Message) { m.Key = k })
	gets(t, x, 0, 0, m, api.OK)
	x.Sends()
	gets(t, x, 0, 2, changed(resvFrom(2, 1, 8, 3, 1), func(m *message.Message) { m.Key = k }), api.OK)
	l, b, _ := x.Held(2)
	if len(l) != 2 || b.Held[5] != 8 {
		t.Errorf("Held: %v, %v", l, b)
	}
	binds(t, x, row(16, 2, 3), row(17, 2, 3))
}

func TestPathErr(t *testing.T) {
	w := want(4, 5)
	for _, code := range []api.Errno{api.OK, api.ErrRoom, 255} {
		for _, where := range []int{0, 2, 15} {
			m := fault(message.PathErr, 1, where, code)
			x := through(t, w)
			before := look(x)
			gets(t, x, 0, 2, m, api.OK)
			sends(t, x, send(0, m))
			stays(t, x, before)
			x = begins(t, w)
			before = look(x)
			gets(t, x, 0, 1, m, api.OK)
			tells(t, x, Event{Failed, key(1), code})
			stays(t, x, before)
		}
	}
	m := fault(message.PathErr, 1, 2, api.ErrRoom)
	x := through(t, w)
	for _, from := range []int{0, 3, 4} {
		ignores(t, x, 0, from, m, api.ErrState)
	}
	ignores(t, x, 0, 2, fault(message.PathErr, 2, 2, api.ErrRoom), api.ErrState)
	ignores(t, ends(t, w), 0, 1, m, api.ErrState)
	// Without a reservation it is the same.
	x = nodeOf(t, 1)
	gets(t, x, 0, 0, pathFrom(0, 1, w), api.OK)
	x.Sends()
	gets(t, x, 0, 2, m, api.OK)
	sends(t, x, send(0, m))
}

func TestResvErrAndResvConf(t *testing.T) {
	w := want(4, 5)
	for _, kind := range []int{message.ResvErr, message.ResvConf} {
		made := func(from, tunnel, where int, code api.Errno) message.Message {
			m := fault(kind, tunnel, where, code)
			if kind == message.ResvErr {
				m.From = from
			}
			return m
		}
		for _, code := range []api.Errno{api.OK, api.ErrRoom, 255} {
			for _, where := range []int{0, 1, 15} {
				x := through(t, w)
				before := look(x)
				gets(t, x, 0, 0, made(0, 1, where, code), api.OK)
				sends(t, x, send(2, made(1, 1, where, code)))
				stays(t, x, before)
				x = ends(t, w)
				before = look(x)
				gets(t, x, 0, 1, made(1, 1, where, code), api.OK)
				stays(t, x, before)
			}
		}
		x := through(t, w)
		for _, from := range []int{2, 3, 4} {
			ignores(t, x, 0, from, made(from, 1, 0, api.ErrRoom), api.ErrState)
		}
		ignores(t, x, 0, 0, made(0, 2, 0, api.ErrRoom), api.ErrState)
		ignores(t, begins(t, w), 0, 1, made(1, 1, 0, api.ErrRoom), api.ErrState)
	}
}

func TestPathTear(t *testing.T) {
	w := want(4, 5)
	m := tearFrom(0, message.PathTear, 1)
	x := through(t, w)
	passes(t, x, 2, w)
	for _, from := range []int{2, 3, 4} {
		ignores(t, x, 0, from, changed(m, func(m *message.Message) { m.From = from }), api.ErrState)
	}
	ignores(t, x, 0, 0, tearFrom(0, message.PathTear, 3), api.ErrState)
	gets(t, x, 0, 0, m, api.OK)
	sends(t, x, send(2, tearFrom(1, message.PathTear, 1)))
	tells(t, x)
	has(t, x, with(at(2, w, 1, 10), 17, 3, 10, 1))
	binds(t, x, row(17, 2, 3))
	uses(t, x, 17)
	holds(t, x, 2, 10, entry(2, w))
	ignores(t, x, 0, 0, m, api.ErrState)
	// Without a reservation, but with a label.
	gets(t, x, 0, 2, tearFrom(2, message.ResvTear, 2), api.OK)
	x.Sends()
	gets(t, x, 0, 0, tearFrom(0, message.PathTear, 2), api.OK)
	sends(t, x, send(2, tearFrom(1, message.PathTear, 2)))
	has(t, x)
	uses(t, x)
	// Without both.
	gets(t, x, 0, 0, pathFrom(0, 1, w), api.OK)
	x.Sends()
	gets(t, x, 0, 0, m, api.OK)
	sends(t, x, send(2, tearFrom(1, message.PathTear, 1)))
	has(t, x)
	// At the tail, and at the head.
	x = ends(t, w)
	gets(t, x, 0, 1, tearFrom(1, message.PathTear, 1), api.OK)
	quiet(t, x)
	has(t, x)
	ignores(t, begins(t, w), 0, 1, tearFrom(1, message.PathTear, 1), api.ErrState)
}

func TestResvTear(t *testing.T) {
	w := want(4, 5)
	m := tearFrom(2, message.ResvTear, 1)
	x := through(t, w)
	passes(t, x, 2, w)
	for _, from := range []int{0, 3, 4} {
		ignores(t, x, 0, from, changed(m, func(m *message.Message) { m.From = from }), api.ErrState)
	}
	ignores(t, x, 0, 2, tearFrom(2, message.ResvTear, 3), api.ErrState)
	gets(t, x, 0, 2, m, api.OK)
	sends(t, x, send(0, tearFrom(1, message.ResvTear, 1)))
	tells(t, x)
	has(t, x, with(at(1, w, 1, 10), 16, 0, 0, 1), with(at(2, w, 1, 10), 17, 3, 10, 1))
	binds(t, x, row(17, 2, 3))
	uses(t, x, 16, 17)
	holds(t, x, 2, 10, entry(2, w))
	ignores(t, x, 0, 2, m, api.ErrState)
	// An old Resv is still an old one.
	ignores(t, x, 0, 2, resvFrom(2, 1, 4, 3, 1), api.ErrState)
	x = begins(t, w)
	is(t, "Map", x.Map(3, key(1)), api.OK)
	gets(t, x, 0, 1, tearFrom(1, message.ResvTear, 1), api.OK)
	sends(t, x)
	tells(t, x, Event{Failed, key(1), api.ErrTorn})
	has(t, x, with(at(1, w, 0, soft.Never), 0, 0, 0, 1))
	mapped(t, x)
	holds(t, x, 1, 11)
	ignores(t, ends(t, w), 0, 1, tearFrom(1, message.ResvTear, 1), api.ErrState)
}
