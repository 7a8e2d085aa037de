package message

import "viaduct/body"

// protocol is what a path is requested for: packets of IP.
const protocol = 2048

// part is an item that a message has: how it is written, and how it is read into a message.
type part struct {
	write func(m Message) body.Item
	read  func(m *Message, x body.Item)
}

// contents are the items of the messages of a type, in their order; none for a number that is no type.
func contents(kind int) []part {
	switch kind {
	case Path:
		return session(hop(), times(), route(), request(), attributes(), lsp(body.Sender), bandwidth(body.Tspec), record())
	case Resv:
		return session(hop(), times(), serial(), style(), bandwidth(body.Spec), lsp(body.Filter), label())
	case PathErr:
		return session(fault(), lsp(body.Sender))
	case ResvErr:
		return session(hop(), fault(), style(), lsp(body.Filter))
	case PathTear:
		return session(hop(), lsp(body.Sender))
	case ResvTear:
		return session(hop(), style(), lsp(body.Filter))
	case ResvConf:
		return session(fault(), style(), lsp(body.Filter))
	}
	return nil
}

// session comes first in every message; the other items follow.
func session(others ...part) []part {
	first := part{
		write: func(m Message) body.Item {
			return body.Item{Class: body.Session, A: m.Key.Tail, B: m.Key.Tunnel, C: m.Key.Head}
		},
		read: func(m *Message, x body.Item) { m.Key.Tail, m.Key.Tunnel, m.Key.Head = x.A, x.B, x.C },
	}
	return append([]part{first}, others...)
}

// lsp is a Filter or a Sender: they differ by their class alone.
func lsp(class int) part {
	return part{
		write: func(m Message) body.Item { return body.Item{Class: class, A: m.Key.Head, B: m.Key.Lsp} },
		read:  func(m *Message, x body.Item) { m.Key.Head, m.Key.Lsp = x.A, x.B },
	}
}

func hop() part {
	return part{
		write: func(m Message) body.Item { return body.Item{Class: body.Hop, A: m.From} },
		read:  func(m *Message, x body.Item) { m.From = x.A },
	}
}

// times: a negative Period becomes a number that is too great for the item. So does a negative Serial.
func times() part {
	return part{
		write: func(m Message) body.Item { return body.Item{Class: body.Times, U: uint64(m.Period)} },
		read:  func(m *Message, x body.Item) { m.Period = int(x.U) },
	}
}

func serial() part {
	return part{
		write: func(m Message) body.Item { return body.Item{Class: body.Serial, U: uint64(m.Serial)} },
		read:  func(m *Message, x body.Item) { m.Serial = int(x.U) },
	}
}

func route() part {
	return part{
		write: func(m Message) body.Item { return body.Item{Class: body.Route, L: m.Route} },
		read:  func(m *Message, x body.Item) { m.Route = x.L },
	}
}

func record() part {
	return part{
		write: func(m Message) body.Item { return body.Item{Class: body.Record, L: m.Record} },
		read:  func(m *Message, x body.Item) { m.Record = x.L },
	}
}

func request() part {
	return always(body.Item{Class: body.Request, A: protocol})
}

func style() part {
	return always(body.Item{Class: body.Style})
}

// always is an item that tells nothing of the message.
func always(x body.Item) part {
	return part{
		write: func(Message) body.Item { return x },
		read:  func(*Message, body.Item) {},
	}
}

// attributes are the Want without the bandwidth, which has an item of its own.
func attributes() part {
	return part{
		write: func(m Message) body.Item {
			m.Want.Bw = 0
			return body.Item{Class: body.Attr, W: m.Want}
		},
		read: func(m *Message, x body.Item) {
			x.W.Bw = m.Want.Bw
			m.Want = x.W
		},
	}
}

// bandwidth is a Spec or a Tspec: they differ by their class alone.
func bandwidth(class int) part {
	return part{
		write: func(m Message) body.Item { return body.Item{Class: class, U: m.Want.Bw} },
		read:  func(m *Message, x body.Item) { m.Want.Bw = x.U },
	}
}

func label() part {
	return part{
		write: func(m Message) body.Item { return body.Item{Class: body.Label, A: m.Label} },
		read:  func(m *Message, x body.Item) { m.Label = x.A },
	}
}

func fault() part {
	return part{
		write: func(m Message) body.Item { return body.Item{Class: body.Fault, A: m.Where, B: m.Code} },
		read:  func(m *Message, x body.Item) { m.Where, m.Code = x.A, x.B },
	}
}
