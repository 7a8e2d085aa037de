package node

import (
	"slices"

	"viaduct/api"
	"viaduct/graph"
	"viaduct/message"
	"viaduct/soft"
)

// receiver processes a valid message from a neighbor.
type receiver func(x *Node, now, from int, m message.Message) api.Errno

// receivers are indexed by the types of messages.
func receivers() [message.ResvConf + 1]receiver {
	return [...]receiver{
		message.Path:     (*Node).recvPath,
		message.Resv:     (*Node).recvResv,
		message.PathErr:  (*Node).recvPathErr,
		message.ResvErr:  (*Node).recvResvErr,
		message.PathTear: (*Node).recvPathTear,
		message.ResvTear: (*Node).recvResvTear,
		message.ResvConf: (*Node).recvResvConf,
	}
}

// recvPath answers a Path that is refused.
func (x *Node) recvPath(now, from int, m message.Message) api.Errno {
	e := x.acceptPath(now, from, m)
	if e != api.OK {
		x.send(from, message.Message{Type: message.PathErr, Key: m.Key, Where: x.id, Code: int(e)})
	}
	return e
}

// acceptPath creates a state, or lets it live on; an error if it refuses to.
func (x *Node) acceptPath(now, from int, m message.Message) api.Errno {
	p := path{soft.State{Key: m.Key, Want: m.Want, Route: m.Route, At: slices.Index(m.Route, x.id), Until: now + api.Life}, x}
	// A state is valid only with a right Want, and a right route that has the node in it; at its head, no neighbor is upstream.
	if !soft.May(p.State) || p.upstream() != from || graph.Find(x.network, from, x.id) < 0 {
		return api.ErrRoute
	}
	if !slices.Equal(m.Record, p.Route[:p.At]) {
		return api.ErrLoop
	}
	old, found := x.find(m.Key)
	if !found {
		return p.begin()
	}
	if old.Want != p.Want || !slices.Equal(old.Route, p.Route) {
		return api.ErrHave
	}
	// By the same route, the state isn't at the head either.
	old.Until = p.Until
	return old.put()
}

// recvResv reserves, or keeps what is reserved.
func (x *Node) recvResv(now, from int, m message.Message) api.Errno {
	p, ok := x.fromDownstream(from, m.Key)
	if !ok || m.Want.Bw != p.Want.Bw || !isLabel(m.Label) || m.Serial <= p.Seen {
		return api.ErrState
	}
	// It is stored at once, as it counts even if nothing can be reserved.
	p.Seen = m.Serial
	p.put()
	if p.reserved() {
		p.use(now, m.Label)
		return api.OK
	}
	if e := p.reserve(); e != api.OK {
		return e
	}
	p.use(now, m.Label)
	if p.atHead() {
		p.tell(Up, api.OK)
		p.sendDown(message.Message{Type: message.ResvConf, Where: x.id})
	} else {
		p.sendResv()
	}
	return api.OK
}

// reserve lets a path hold the link to the downstream node, and gives it a label if it has none; it tells both neighbors if that can't be.
func (p *path) reserve() api.Errno {
	l := p.linkTo(p.downstream())
	if !l.up {
		p.report(api.ErrDown)
		return api.ErrDown
	}
	gone, e := p.hold(l)
	if e != api.OK {
		p.report(e)
		p.sendDown(message.Message{Type: message.ResvErr, Where: p.id, Code: int(e)})
		return e
	}
	for _, k := range gone {
		if other, found := p.find(k); found {
			other.fail(api.ErrPre)
		}
	}
	if p.needsLabel() {
		p.In, _ = p.labels.Take()
	}
	return api.OK
}

// hold lets a path hold a link, for which others may be preempted, unless it would lack a label then.
func (p path) hold(l *link) ([]api.Key, api.Errno) {
	if p.needsLabel() && p.labels.Left() == 0 {
		return nil, api.ErrLabel
	}
	return l.held.Admit(p.Key, p.Want)
}

// recvPathErr passes an error on to the head.
func (x *Node) recvPathErr(_, from int, m message.Message) api.Errno {
	p, ok := x.fromDownstream(from, m.Key)
	if !ok {
		return api.ErrState
	}
	if p.atHead() {
		p.tell(Failed, api.Errno(m.Code))
	}
	p.sendUp(message.Message{Type: message.PathErr, Where: m.Where, Code: m.Code})
	return api.OK
}

// recvResvErr passes an error on to the tail.
func (x *Node) recvResvErr(_, from int, m message.Message) api.Errno {
	return x.passDown(from, m)
}

// recvResvConf passes the confirmation on to the tail.
func (x *Node) recvResvConf(_, from int, m message.Message) api.Errno {
	return x.passDown(from, m)
}

// recvPathTear ends a path.
func (x *Node) recvPathTear(_, from int, m message.Message) api.Errno {
	p, ok := x.fromUpstream(from, m.Key)
	if !ok {
		return api.ErrState
	}
	p.end()
	return api.OK
}

// recvResvTear ends a reservation.
func (x *Node) recvResvTear(_, from int, m message.Message) api.Errno {
	p, ok := x.fromDownstream(from, m.Key)
	if !ok || !p.reserved() {
		return api.ErrState
	}
	p.withdraw()
	return api.OK
}

// passDown lets a message with a fault go on downstream.
func (x *Node) passDown(from int, m message.Message) api.Errno {
	p, ok := x.fromUpstream(from, m.Key)
	if !ok {
		return api.ErrState
	}
	p.sendDown(message.Message{Type: m.Type, Where: m.Where, Code: m.Code})
	return api.OK
}

// fromUpstream is the path of a key, if there is one and a neighbor is its upstream node.
func (x *Node) fromUpstream(from int, k api.Key) (path, bool) {
	p, found := x.find(k)
	return p, found && p.upstream() == from
}

// fromDownstream is the path of a key, if there is one and a neighbor is its downstream node.
func (x *Node) fromDownstream(from int, k api.Key) (path, bool) {
	p, found := x.find(k)
	return p, found && p.downstream() == from
}

// isLabel says whether the label of a valid message, which is never above MaxLabel, is one that a node gives.
func isLabel(label int) bool {
	return label == api.Null || label >= api.MinLabel
}
