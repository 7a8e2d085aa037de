package node

import (
	"math"
	"slices"
	"testing"

	"viaduct/admit"
	"viaduct/api"
	"viaduct/graph"
	"viaduct/ledger"
	"viaduct/lfib"
	"viaduct/message"
	"viaduct/soft"
	"viaduct/tedb"
)

// model is a node by another way: it has states only; labels, bindings and what is held are told from them each time.
type model struct {
	id        int
	links     []api.Link
	down      map[int]bool
	states    map[api.Key]*soft.State
	next      int // label
	high      int
	serial    int
	tunnels   map[int]api.Key
	base      *tedb.Base
	sends     []Send
	events    []Event
	preempted int
}

func newModel(id, n int, l []api.Link, low, high int) *model {
	return &model{id: id, links: l, down: map[int]bool{}, states: map[api.Key]*soft.State{}, next: low, high: high, serial: 1, tunnels: map[int]api.Key{}, base: tedb.New(n, l)}
}

// sorted are the states, in the order of keys, that a function asks for.
func (m *model) sorted(asks func(s *soft.State) bool) []*soft.State {
	var all []*soft.State
	for _, s := range m.states {
		if asks(s) {
			all = append(all, s)
		}
	}
	slices.SortFunc(all, func(a, b *soft.State) int {
		if admit.Before(a.Key, b.Key) {
			return -1
		}
		return 1
	})
	return all
}

func (m *model) all() []*soft.State {
	return m.sorted(func(*soft.State) bool { return true })
}

func head(s *soft.State) bool { return s.At == 0 }
func tail(s *soft.State) bool { return s.At+1 == len(s.Route) }

// over are the states with a reservation of the link to a node.
func (m *model) over(to int) []*soft.State {
	return m.sorted(func(s *soft.State) bool { return s.Out != 0 && !tail(s) && s.Route[s.At+1] == to })
}

// held is a table of the link to a node, with all that are admitted.
func (m *model) held(to int) *admit.Table {
	t := admit.New(m.links[graph.Find(m.links, m.id, to)].Cap)
	for _, s := range m.over(to) {
		if gone, e := t.Admit(s.Key, s.Want); len(gone) > 0 || e != api.OK {
			panic("more is held than there is")
		}
	}
	return t
}

func (m *model) labels() []int {
	var all []int
	for _, s := range m.states {
		if s.In >= 16 {
			all = append(all, s.In)
		}
	}
	slices.Sort(all)
	return all
}

func byIn(a, b lfib.Row) int { return a.In - b.In }

func (m *model) rows() (labels, tunnels []lfib.Row) {
	for _, s := range m.states {
		if s.Out != 0 && s.In >= 16 {
			labels = append(labels, row(s.In, s.Route[s.At+1], s.Out))
		}
	}
	for tunnel, k := range m.tunnels {
		s := m.states[k]
		tunnels = append(tunnels, row(tunnel, s.Route[1], s.Out))
	}
	slices.SortFunc(labels, byIn)
	slices.SortFunc(tunnels, byIn)
	return labels, tunnels
}

func (m *model) send(to int, x message.Message, k api.Key) {
	x.Ttl, x.Key = 255, k
	switch x.Type {
	case message.Path, message.Resv:
		x.Period, x.From = 3, m.id
	case message.ResvErr, message.PathTear, message.ResvTear:
		x.From = m.id
	}
	m.sends = append(m.sends, Send{to, x})
}

func (m *model) path(s *soft.State) {
	m.send(s.Route[s.At+1], message.Message{Type: message.Path, Want: s.Want, Route: slices.Clone(s.Route), Record: slices.Clone(s.Route[:s.At+1])}, s.Key)
}

func (m *model) resv(s *soft.State) {
	m.send(s.Route[s.At-1], message.Message{Type: message.Resv, Want: api.Want{Bw: s.Want.Bw}, Label: s.In, Serial: m.serial}, s.Key)
	m.serial++
}

func (m *model) report(s *soft.State, c api.Errno) {
	if head(s) {
		m.events = append(m.events, Event{Failed, s.Key, c})
	} else {
		m.send(s.Route[s.At-1], message.Message{Type: message.PathErr, Where: m.id, Code: int(c)}, s.Key)
	}
}

func (m *model) release(s *soft.State) {
	s.Out, s.Keep = 0, 0
	for tunnel, k := range m.tunnels {
		if k == s.Key {
			delete(m.tunnels, tunnel)
		}
	}
}

func (m *model) tearUp(s *soft.State) {
	if !head(s) {
		m.send(s.Route[s.At-1], message.Message{Type: message.ResvTear}, s.Key)
	}
}

func (m *model) tearDown(s *soft.State) {
	if !tail(s) {
		m.send(s.Route[s.At+1], message.Message{Type: message.PathTear}, s.Key)
	}
}

func (m *model) withdraw(s *soft.State) {
	m.release(s)
	if head(s) {
		m.events = append(m.events, Event{Failed, s.Key, api.ErrTorn})
	}
	m.tearUp(s)
}

func (m *model) remove(s *soft.State) {
	m.release(s)
	delete(m.states, s.Key)
}

func (m *model) leads(to int) bool { return graph.Find(m.links, m.id, to) >= 0 }

func isTick(now int) bool { return now >= 0 && now <= 1<<40-10 }

func (m *model) start(now int, k api.Key, w api.Want, route []int) api.Errno {
	s := soft.State{Key: k, Want: w, Route: slices.Clone(route), Until: 1 << 40}
	if !isTick(now) || !soft.May(s) || k.Head != m.id {
		return api.ErrArg
	}
	if _, e := graph.Route(m.links, route); e != api.OK {
		return api.ErrRoute
	}
	if m.states[k] != nil {
		return api.ErrHave
	}
	if m.down[route[1]] {
		return api.ErrDown
	}
	if len(m.states) == 64 {
		return api.ErrFull
	}
	m.states[k] = &s
	m.path(&s)
	return api.OK
}

func (m *model) stop(k api.Key) api.Errno {
	s := m.states[k]
	if s == nil || !head(s) {
		return api.ErrNone
	}
	m.tearDown(s)
	m.remove(s)
	return api.OK
}

func (m *model) recv(now, from int, x message.Message) api.Errno {
	named := x.Type != message.PathErr && x.Type != message.ResvConf
	if !isTick(now) || !message.May(x) || graph.Find(m.links, m.id, from) < 0 && graph.Find(m.links, from, m.id) < 0 || named && x.From != from {
		return api.ErrArg
	}
	if x.Type == message.Path {
		e := m.recvPath(now, from, x)
		if e != api.OK {
			m.send(from, message.Message{Type: message.PathErr, Where: m.id, Code: int(e)}, x.Key)
		}
		return e
	}
	s := m.states[x.Key]
	if s == nil {
		return api.ErrState
	}
	switch x.Type {
	case message.Resv, message.PathErr, message.ResvTear:
		if tail(s) || s.Route[s.At+1] != from {
			return api.ErrState
		}
	default:
		if head(s) || s.Route[s.At-1] != from {
			return api.ErrState
		}
	}
	switch x.Type {
	case message.Resv:
		return m.recvResv(now, x, s)
	case message.PathErr:
		if head(s) {
			m.events = append(m.events, Event{Failed, s.Key, api.Errno(x.Code)})
		} else {
			m.send(s.Route[s.At-1], message.Message{Type: message.PathErr, Where: x.Where, Code: x.Code}, s.Key)
		}
	case message.ResvErr, message.ResvConf:
		if !tail(s) {
			m.send(s.Route[s.At+1], message.Message{Type: x.Type, Where: x.Where, Code: x.Code}, s.Key)
		}
	case message.PathTear:
		m.tearDown(s)
		m.remove(s)
	case message.ResvTear:
		if s.Out == 0 {
			return api.ErrState
		}
		m.withdraw(s)
	}
	return api.OK
}

func (m *model) recvPath(now, from int, x message.Message) api.Errno {
	i := slices.Index(x.Route, m.id)
	w, r := x.Want, x.Route
	seen := map[int]bool{}
	for _, node := range r {
		seen[node] = true
	}
	if w.Hold > w.Setup || len(r) < 2 || len(r) > 16 || len(seen) != len(r) || r[0] != x.Key.Head || r[len(r)-1] != x.Key.Tail || i < 1 || r[i-1] != from || graph.Find(m.links, from, m.id) < 0 {
		return api.ErrRoute
	}
	if !slices.Equal(x.Record, r[:i]) {
		return api.ErrLoop
	}
	if s := m.states[x.Key]; s != nil {
		if s.Want != w || !slices.Equal(s.Route, r) {
			return api.ErrHave
		}
		s.Until = now + 10
		return api.OK
	}
	if i+1 < len(r) && !m.leads(r[i+1]) {
		return api.ErrRoute
	}
	if i+1 < len(r) && m.down[r[i+1]] {
		return api.ErrDown
	}
	if len(m.states) == 64 {
		return api.ErrFull
	}
	s := &soft.State{Key: x.Key, Want: w, Route: slices.Clone(r), At: i, Until: now + 10}
	m.states[x.Key] = s
	if tail(s) {
		s.In = 3
		m.resv(s)
	} else {
		m.path(s)
	}
	return api.OK
}

func (m *model) recvResv(now int, x message.Message, s *soft.State) api.Errno {
	if x.Want.Bw != s.Want.Bw || x.Label != 3 && x.Label < 16 || x.Serial <= s.Seen {
		return api.ErrState
	}
	s.Seen = x.Serial
	if s.Out != 0 {
		s.Out, s.Keep = x.Label, now+10
		return api.OK
	}
	to := s.Route[s.At+1]
	if m.down[to] {
		m.report(s, api.ErrDown)
		return api.ErrDown
	}
	var gone []api.Key
	var e api.Errno
	if !head(s) && s.In == 0 && m.next > m.high {
		e = api.ErrLabel
	} else {
		gone, e = m.held(to).Admit(s.Key, s.Want)
	}
	if e != api.OK {
		m.report(s, e)
		m.send(to, message.Message{Type: message.ResvErr, Where: m.id, Code: int(e)}, s.Key)
		return e
	}
	for _, k := range gone {
		m.release(m.states[k])
		m.report(m.states[k], api.ErrPre)
		m.tearUp(m.states[k])
		m.preempted++
	}
	if !head(s) && s.In == 0 {
		s.In = m.next
		m.next++
	}
	s.Out, s.Keep = x.Label, now+10
	if head(s) {
		m.events = append(m.events, Event{Up, s.Key, api.OK})
		m.send(to, message.Message{Type: message.ResvConf, Where: m.id}, s.Key)
	} else {
		m.resv(s)
	}
	return api.OK
}

func (m *model) tick(now int) api.Errno {
	if !isTick(now) {
		return api.ErrArg
	}
	for _, a := range m.base.All() {
		if a.Link.From == m.id {
			b := a
			b.Up, b.Free = !m.down[a.Link.To], ledger.Free(m.held(a.Link.To).Ledger())
			if a != b {
				b.Seq++
				m.base.Apply(b)
			}
		}
	}
	for _, s := range m.sorted(func(s *soft.State) bool { return s.Until < now }) {
		m.tearDown(s)
		m.remove(s)
	}
	for _, s := range m.sorted(func(s *soft.State) bool { return s.Out != 0 && s.Keep < now }) {
		m.withdraw(s)
	}
	if now%3 != 0 {
		return api.OK
	}
	for _, s := range m.all() {
		if !tail(s) && !m.down[s.Route[s.At+1]] {
			m.path(s)
		}
		if tail(s) || s.Out != 0 && !head(s) {
			m.resv(s)
		}
	}
	return api.OK
}

func (m *model) link(to int, up bool) api.Errno {
	if !m.leads(to) {
		return api.ErrNone
	}
	fails := !m.down[to] && !up
	m.down[to] = !up
	if !fails {
		return api.OK
	}
	for _, s := range m.sorted(func(s *soft.State) bool { return !tail(s) && s.Route[s.At+1] == to }) {
		had := s.Out != 0
		m.release(s)
		m.report(s, api.ErrDown)
		if had {
			m.tearUp(s)
		}
	}
	return api.OK
}

func (m *model) restart() api.Errno {
	clear(m.states)
	clear(m.tunnels)
	m.sends, m.events = nil, nil
	return api.OK
}

func (m *model) mapTo(tunnel int, k api.Key) api.Errno {
	s := m.states[k]
	if s == nil || !head(s) || s.Out == 0 {
		return api.ErrNone
	}
	if tunnel < 1 || tunnel > 65535 {
		return api.ErrArg
	}
	if _, ok := m.tunnels[tunnel]; !ok && len(m.tunnels) == 64 {
		return api.ErrFull
	}
	m.tunnels[tunnel] = k
	return api.OK
}

func (m *model) unmap(tunnel int) api.Errno {
	if _, ok := m.tunnels[tunnel]; !ok {
		return api.ErrNone
	}
	delete(m.tunnels, tunnel)
	return api.OK
}

func (m *model) learn(l []tedb.Advert) {
	for _, a := range l {
		if a.Link.From != m.id {
			m.base.Apply(a)
		}
	}
}

// look is the view of a model.
func (m *model) look() view {
	v := view{inUse: m.labels(), held: map[int][]admit.Entry{}, books: map[int]ledger.Ledger{}, base: m.base.All()}
	for _, s := range m.all() {
		v.states = append(v.states, *s)
	}
	v.labels, v.tunnels = m.rows()
	for _, l := range m.links {
		if l.From == m.id {
			v.held[l.To], v.books[l.To] = m.held(l.To).Entries(), m.held(l.To).Ledger()
		}
	}
	return v
}

// mix answers numbers from 0 to n - 1 without an order to be seen, the same in every run.
func mix(seed uint64) func(n int) int {
	return func(n int) int {
		seed = seed*6364136223846793005 + 1442695040888963407
		return int(((seed ^ seed>>29) >> 8) % uint64(n))
	}
}

// note is a message on its way.
type note struct {
	from, to int
	m        message.Message
}

// world is some nodes that send messages to each other, each with its model.
type world struct {
	t      *testing.T
	next   func(n int) int
	n      int
	links  []api.Link
	nodes  []*Node
	models []*model
	flight []note
	now    int
	lsp    int
	keys   []api.Key
	// Of each node: the last serial number that it sent, and the labels that its states had.
	serials []int
	owners  []map[int]api.Key
	seen    map[string]map[api.Errno]int
	bound   int
}

// newWorld has a network of 3 to 6 nodes, with links in one direction, too, and few labels or many.
func newWorld(t *testing.T, seed uint64) *world {
	w := &world{t: t, next: mix(seed), seen: map[string]map[api.Errno]int{}}
	w.n = 3 + w.next(4)
	for from := range w.n {
		for to := range w.n {
			if from != to && (to == from+1 || w.next(3) > 0) {
				w.links = append(w.links, api.Link{From: from, To: to, Cap: uint64(w.next(20)), Metric: 1})
			}
		}
	}
	if w.next(4) == 0 {
		w.links[0].Cap = math.MaxUint64
	}
	high := 16 + w.next(8)
	if w.next(3) > 0 {
		high = 9999
	}
	for id := range w.n {
		w.nodes = append(w.nodes, New(id, w.n, w.links, 16, high))
		w.models = append(w.models, newModel(id, w.n, w.links, 16, high))
		w.serials = append(w.serials, 0)
		w.owners = append(w.owners, map[int]api.Key{})
	}
	return w
}

// answers compares what a node and its model returned, and then both of them; the messages are sent.
func (w *world) answers(id int, what string, got, want api.Errno) {
	w.t.Helper()
	x, m := w.nodes[id], w.models[id]
	if w.seen[what] == nil {
		w.seen[what] = map[api.Errno]int{}
	}
	w.seen[what][got]++
	if got != want {
		w.t.Fatalf("%s: %d, not %d", what, got, want)
	}
	if a, b := look(x), m.look(); !a.same(b) {
		w.t.Fatalf("%s: %+v, not %+v", what, a, b)
	}
	w.holds(id, what)
	sends(w.t, x, m.sends...)
	tells(w.t, x, m.events...)
	for _, s := range m.sends {
		w.sent(id, s)
		w.flight = append(w.flight, note{id, s.To, s.M})
	}
	m.sends, m.events = nil, nil
	if len(w.flight) > 400 {
		w.flight = w.flight[200:]
	}
}

// sent asks a message of a node for P19.12.
func (w *world) sent(id int, s Send) {
	w.t.Helper()
	if !message.May(s.M) || !slices.Contains(graph.Near(w.links, id), s.To) {
		w.t.Fatalf("node %d sends %+v", id, s)
	}
	if s.M.Type == message.Resv {
		if s.M.Serial <= w.serials[id] {
			w.t.Fatalf("node %d sends the serial number %d after %d", id, s.M.Serial, w.serials[id])
		}
		w.serials[id] = s.M.Serial
	}
}

// holds asks a node for P19.8 to P19.10, from its own results.
func (w *world) holds(id int, what string) {
	w.t.Helper()
	x := w.nodes[id]
	var rows []lfib.Row
	over := map[int][]admit.Entry{}
	ins := map[int]bool{}
	for _, s := range x.States() {
		if s.At < len(s.Route)-1 && s.Out != 0 {
			over[s.Route[s.At+1]] = append(over[s.Route[s.At+1]], admit.Entry{Key: s.Key, Want: s.Want})
		}
		if s.At > 0 && s.Out != 0 {
			rows = append(rows, row(s.In, s.Route[s.At+1], s.Out))
		}
		if s.In < 16 {
			continue
		}
		if k, ok := w.owners[id][s.In]; ins[s.In] || ok && k != s.Key {
			w.t.Fatalf("%s: the label %d of node %d was that of %v", what, s.In, id, k)
		}
		ins[s.In], w.owners[id][s.In] = true, s.Key
	}
	for label := range w.owners[id] {
		if !ins[label] { // it is gone: nobody may have it any more
			w.owners[id][label] = api.Key{Lsp: -1}
		}
	}
	slices.SortFunc(rows, byIn)
	if got, _ := x.Rows(); !slices.Equal(got, rows) {
		w.t.Fatalf("%s: bound are %v, not %v", what, got, rows)
	}
	w.bound += len(rows)
	for _, l := range w.links {
		if l.From != id {
			continue
		}
		got, b, _ := x.Held(l.To)
		if !slices.Equal(got, over[l.To]) || !ledger.Right(b) || b.Cap != l.Cap {
			w.t.Fatalf("%s: %v hold the link to %d, with %v, not %v", what, got, l.To, b, over[l.To])
		}
	}
}

func (w *world) recv(now, from, to int, m message.Message) api.Errno {
	w.t.Helper()
	e := w.nodes[to].Recv(now, from, m)
	w.answers(to, "Recv", e, w.models[to].recv(now, from, m))
	what := []string{"", "Path", "Resv", "PathErr", "ResvErr", "PathTear", "ResvTear", "ResvConf"}
	if m.Type > 0 && m.Type < len(what) {
		if w.seen[what[m.Type]] == nil {
			w.seen[what[m.Type]] = map[api.Errno]int{}
		}
		w.seen[what[m.Type]][e]++
	}
	return e
}

// deliver lets one of the messages on their way arrive: often the first one. One in some arrives twice, as P19.11 has it, or again later, or changed.
func (w *world) deliver() {
	if len(w.flight) == 0 {
		return
	}
	i := 0
	if w.next(4) == 0 {
		i = w.next(len(w.flight))
	}
	x := w.flight[i]
	if w.next(20) > 0 {
		w.flight = slices.Delete(w.flight, i, i+1)
	}
	switch w.next(25) {
	case 0: // lost
		return
	case 1, 2, 3:
		x = w.wrong(x)
	}
	now := w.now
	if w.next(200) == 0 {
		now = badTicks[w.next(len(badTicks))]
	}
	e := w.recv(now, x.from, x.to, x.m)
	if e == api.OK {
		w.again(now, x)
	}
}

// again lets a message that was accepted arrive again, for P19.11.
func (w *world) again(now int, x note) {
	if !slices.Contains([]int{message.Path, message.Resv, message.PathTear, message.ResvTear}, x.m.Type) {
		return
	}
	before := look(w.nodes[x.to])
	e := w.nodes[x.to].Recv(now, x.from, x.m)
	if x.m.Type == message.Path && e != api.OK || x.m.Type != message.Path && e != api.ErrState {
		w.t.Fatalf("%+v again: %d", x, e)
	}
	stays(w.t, w.nodes[x.to], before)
}

// wrong is a message that is not as it was sent, in one of many ways.
func (w *world) wrong(x note) note {
	x.m.Route, x.m.Record = slices.Clone(x.m.Route), slices.Clone(x.m.Record)
	m := &x.m
	small := []int{-1, 0, 1, 2, 3, 15, 16, 20, 65535, 65536, api.MaxLabel, api.MaxLabel + 1}
	odd := func() int { return small[w.next(len(small))] }
	switch w.next(22) {
	case 0:
		x.from = w.next(w.n+2) - 1
	case 1:
		x.to = w.next(w.n)
	case 2:
		m.From = w.next(w.n+2) - 1
	case 3:
		x.from = w.next(w.n)
		m.From = x.from
	case 4:
		m.Type = w.next(10) - 1
	case 5:
		m.Ttl = odd()
	case 6:
		m.Key = api.Key{Tail: odd(), Tunnel: odd(), Head: odd(), Lsp: odd()}
	case 7:
		m.Key.Lsp = w.next(4)
	case 8:
		m.Serial += w.next(5) - 2
	case 9:
		m.Serial = odd()
	case 10:
		m.Want.Bw = uint64(w.next(12))
	case 11:
		m.Want.Hold = w.next(10) - 1
	case 12:
		m.Want.Any++
	case 13:
		m.Label = odd()
	case 14:
		m.Label = 16 + w.next(9)
	case 15:
		m.Where, m.Code = odd(), odd()
	case 16:
		m.Period = odd()
	case 17:
		if len(m.Record) > 0 {
			m.Record[w.next(len(m.Record))] = w.next(w.n)
		}
	case 18:
		m.Record = m.Record[:len(m.Record)/2]
	case 19:
		if len(m.Route) > 0 {
			m.Route[w.next(len(m.Route))] = w.next(w.n)
		}
	case 20:
		if len(m.Route) > 2 {
			m.Route = m.Route[:len(m.Route)-1]
		}
		if len(m.Route) > 0 {
			m.Key.Tail = m.Route[len(m.Route)-1]
		}
	case 21:
		m.Route = append(m.Route, w.next(w.n))
		m.Key.Tail = m.Route[len(m.Route)-1]
	}
	return x
}

// start lets a path begin, by a route that is mostly one.
func (w *world) start() {
	id := w.next(w.n)
	route := []int{id}
	for range 1 + w.next(4) {
		outs := graph.Outs(w.links, route[len(route)-1])
		if len(outs) == 0 {
			break
		}
		to := w.links[outs[w.next(len(outs))]].To
		if !slices.Contains(route, to) || w.next(30) == 0 {
			route = append(route, to)
		}
	}
	if w.next(30) == 0 {
		route = append(route, w.next(w.n+1))
	}
	w.lsp++
	k := api.Key{Tail: route[len(route)-1], Tunnel: 1 + w.next(6), Head: id, Lsp: 1 + w.lsp%50}
	setup := w.next(8)
	want := api.Want{Bw: uint64(w.next(7)), Setup: setup, Hold: setup, Any: uint32(w.next(2))}
	if w.next(3) == 0 {
		want.Hold = w.next(setup + 1)
	}
	switch w.next(40) {
	case 0:
		want.Hold = setup + 1
	case 1:
		want.Bw = math.MaxUint64 - uint64(w.next(2))
	case 2:
		k.Head = w.next(w.n)
	case 3:
		if len(w.keys) > 0 {
			k = w.keys[w.next(len(w.keys))]
		}
	case 4:
		k.Lsp += 65536
	}
	now := w.now
	if w.next(60) == 0 {
		now = badTicks[w.next(len(badTicks))]
	}
	e := w.nodes[id].Start(now, k, want, route)
	w.answers(id, "Start", e, w.models[id].start(now, k, want, route))
	if e == api.OK {
		w.keys = append(w.keys, k)
	}
}

// key is that of a path that was started, and the node where it begins, or another one.
func (w *world) key() (api.Key, int) {
	if len(w.keys) == 0 {
		return api.Key{}, 0
	}
	k := w.keys[w.next(len(w.keys))]
	if w.next(2) > 0 { // one of the last ones
		k = w.keys[len(w.keys)-1-w.next(min(9, len(w.keys)))]
	}
	if w.next(10) == 0 {
		return k, w.next(w.n)
	}
	return k, k.Head
}

func (w *world) tick() {
	w.now++
	for id, x := range w.nodes {
		now := w.now
		switch w.next(300) {
		case 0:
			now = badTicks[w.next(len(badTicks))]
		case 1:
			now = w.next(w.now + 50)
		}
		w.answers(id, "Tick", x.Tick(now), w.models[id].tick(now))
	}
}

// step does one of all things that there are to do.
func (w *world) step(often int) {
	id := w.next(w.n)
	x, m := w.nodes[id], w.models[id]
	switch p := w.next(often + 30); {
	case p < 8:
		w.start()
	case p < 10:
		k, at := w.key()
		w.answers(at, "Stop", w.nodes[at].Stop(k), w.models[at].stop(k))
	case p < 17:
		k, at := w.key()
		tunnel := w.next(5)
		w.answers(at, "Map", w.nodes[at].Map(tunnel, k), w.models[at].mapTo(tunnel, k))
	case p < 19:
		tunnel := w.next(5)
		w.answers(id, "Unmap", x.Unmap(tunnel), m.unmap(tunnel))
	case p < 23:
		w.tick()
	case p < 26:
		to, up := w.next(w.n+2)-1, w.next(4) > 0
		w.answers(id, "Link", x.Link(to, up), m.link(to, up))
	case p < 28:
		l := w.nodes[w.next(w.n)].Base()
		x.Learn(l)
		m.learn(l)
		w.answers(id, "Learn", api.OK, api.OK)
	case p < 29 && w.next(3) == 0:
		w.answers(id, "Restart", x.Restart(), m.restart())
	default:
		w.deliver()
	}
}

// P19.2 to P19.12, over many calls

func TestManyCalls(t *testing.T) {
	seen := map[string]map[api.Errno]int{}
	bound, preempted := 0, 0
	for seed := range uint64(150) {
		w := newWorld(t, seed)
		often := []int{60, 120, 240}[seed%3]
		for range 800 {
			w.step(often)
		}
		for what, all := range w.seen {
			for e, n := range all {
				if seen[what] == nil {
					seen[what] = map[api.Errno]int{}
				}
				seen[what][e] += n
			}
		}
		bound += w.bound
		for _, m := range w.models {
			preempted += m.preempted
		}
	}
	for what, all := range map[string][]api.Errno{
		"Start":    {api.OK, api.ErrArg, api.ErrRoute, api.ErrHave, api.ErrDown},
		"Stop":     {api.OK, api.ErrNone},
		"Map":      {api.OK, api.ErrArg, api.ErrNone},
		"Unmap":    {api.OK, api.ErrNone},
		"Tick":     {api.OK, api.ErrArg},
		"Link":     {api.OK, api.ErrNone},
		"Restart":  {api.OK},
		"Path":     {api.OK, api.ErrArg, api.ErrRoute, api.ErrLoop, api.ErrHave, api.ErrDown},
		"Resv":     {api.OK, api.ErrArg, api.ErrState, api.ErrDown, api.ErrLabel, api.ErrRoom},
		"PathErr":  {api.OK, api.ErrArg, api.ErrState},
		"ResvErr":  {api.OK, api.ErrArg, api.ErrState},
		"PathTear": {api.OK, api.ErrArg, api.ErrState},
		"ResvTear": {api.OK, api.ErrArg, api.ErrState},
		"ResvConf": {api.OK, api.ErrArg, api.ErrState},
	} {
		for _, e := range all {
			if seen[what][e] < 10 {
				t.Errorf("%s: the error %d %d times", what, e, seen[what][e])
			}
		}
	}
	if bound < 10000 || preempted < 100 {
		t.Errorf("%d labels bound, %d paths preempted", bound, preempted)
	}
}
