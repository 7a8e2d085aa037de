package node

import (
	"slices"

	"viaduct/api"
	"viaduct/lfib"
	"viaduct/message"
	"viaduct/soft"
)

// nowhere is the number of no node.
const nowhere = -1

// path is a copy of a state, and the node that has it. What is changed in the copy has to be put.
type path struct {
	soft.State
	*Node
}

// find is the path of a key, if the node has a state of it.
func (x *Node) find(k api.Key) (path, bool) {
	s, e := x.states.Get(k)
	return path{s, x}, e == api.OK
}

func (p path) atHead() bool {
	return p.At == 0
}

func (p path) atTail() bool {
	return p.At == len(p.Route)-1
}

func (p path) upstream() int {
	if p.atHead() {
		return nowhere
	}
	return p.Route[p.At-1]
}

func (p path) downstream() int {
	if p.atTail() {
		return nowhere
	}
	return p.Route[p.At+1]
}

func (p path) reserved() bool {
	return p.Out != 0
}

// needsLabel says whether the node has to give the upstream node a label before a reservation: one that it gave stays with the state.
func (p path) needsLabel() bool {
	return !p.atHead() && p.In == 0
}

// out is where the packets of a path with a reservation go.
func (p path) out() lfib.Out {
	return lfib.Out{Next: p.downstream(), Label: p.Out}
}

// put stores the state, which can't fail for one that is there already.
func (p path) put() api.Errno {
	return p.states.Put(p.State)
}

// begin creates the state of a path that is new to the node, and tells the next node of it.
func (p path) begin() api.Errno {
	if p.atTail() {
		p.In = api.Null
	} else if e := p.mayLeave(); e != api.OK {
		return e
	}
	// It is full if the table is.
	if e := p.put(); e != api.OK {
		return e
	}
	if p.atTail() {
		p.sendResv()
	} else {
		p.sendPath()
	}
	return api.OK
}

// mayLeave says why a path can't go on from here, if so.
func (p path) mayLeave() api.Errno {
	l := p.linkTo(p.downstream())
	if l == nil {
		return api.ErrRoute
	}
	if !l.up {
		return api.ErrDown
	}
	return api.OK
}

// use lets a path's packets go on with a label: those that come with In, or those of the tunnels that are mapped to it.
func (p *path) use(now, label int) {
	p.Out, p.Keep = label, now+api.Life
	p.put()
	if !p.atHead() {
		p.table.Bind(p.In, p.out())
		return
	}
	for tunnel, k := range p.tunnels {
		if k == p.Key {
			p.table.Map(tunnel, p.out())
		}
	}
}

// release undoes a reservation.
func (p *path) release() {
	// Nothing is dropped if the path was preempted, nor freed at the head, which has no In.
	p.linkTo(p.downstream()).held.Drop(p.Key)
	p.table.Free(p.In)
	for tunnel, k := range p.tunnels {
		if k == p.Key {
			p.Unmap(tunnel)
		}
	}
	p.Out, p.Keep = 0, 0
	p.put()
}

// fail says upstream why a path can't go on, and undoes its reservation, if it has one.
func (p *path) fail(c api.Errno) {
	had := p.reserved()
	if had {
		p.release()
	}
	p.report(c)
	if had {
		p.sendUp(message.Message{Type: message.ResvTear})
	}
}

// withdraw undoes the reservation of a path, upstream as well.
func (p *path) withdraw() {
	p.release()
	if p.atHead() {
		p.tell(Failed, api.ErrTorn)
	}
	p.sendUp(message.Message{Type: message.ResvTear})
}

// end removes a path, downstream as well.
func (p *path) end() {
	p.sendDown(message.Message{Type: message.PathTear})
	if p.reserved() {
		p.release()
	}
	// Neither 0 nor Null is in use, so that dropping them does nothing.
	p.labels.Drop(p.In)
	p.states.Drop(p.Key)
}

// report tells the head of an error: by an event if it is here.
func (p path) report(c api.Errno) {
	if p.atHead() {
		p.tell(Failed, c)
	}
	p.sendUp(message.Message{Type: message.PathErr, Where: p.id, Code: int(c)})
}

// tell adds an event.
func (p path) tell(what int, c api.Errno) {
	p.events = append(p.events, Event{What: what, Key: p.Key, Code: c})
}

// sendPath sends a Path, whose lists are its own: the state's are still used.
func (p path) sendPath() {
	p.sendDown(message.Message{
		Type: message.Path, Period: api.Refresh, Want: p.Want,
		Route: slices.Clone(p.Route), Record: slices.Clone(p.Route[:p.At+1]),
	})
}

// sendResv sends a Resv, from another node than the head.
func (p path) sendResv() {
	p.sendUp(message.Message{
		Type: message.Resv, Period: api.Refresh, Want: api.Want{Bw: p.Want.Bw},
		Label: p.In, Serial: p.serial,
	})
	p.serial++
}

// sendUp sends a message of the path to the upstream node, if there is one.
func (p path) sendUp(m message.Message) {
	if !p.atHead() {
		m.Key = p.Key
		p.send(p.upstream(), m)
	}
}

// sendDown sends a message of the path to the downstream node, if there is one.
func (p path) sendDown(m message.Message) {
	if !p.atTail() {
		m.Key = p.Key
		p.send(p.downstream(), m)
	}
}

// send lets a message wait; it adds what is the same in all of them.
func (x *Node) send(to int, m message.Message) {
	m.Ttl = api.MaxTtl
	if hasFrom(m.Type) {
		m.From = x.id
	}
	x.sends = append(x.sends, Send{To: to, M: m})
}

// hasFrom says whether the messages of a type tell who sent them.
func hasFrom(kind int) bool {
	return kind != message.PathErr && kind != message.ResvConf
}
