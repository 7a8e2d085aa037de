package body

import (
	"math"

	"viaduct/api"
)

// What the bodies of objects have in the same bytes always.
const (
	network        = 0x0a0000 // the address of a node, but its last byte
	sharedExplicit = 0x12     // the style of all reservations: shared by senders that are named
	hopKind        = 0x01     // a hop of a route is an address,
	hopBytes       = 8        // has so many bytes in all,
	hopPrefix      = 0x20     // and all 32 bits of the address count
)

const (
	maxByte     = 255
	maxSmall    = 65535
	maxPriority = 7
)

// fields goes through the body of an item's object, in either direction, and answers the item with the fields that were in it.
func fields(d direction, x Item) Item {
	y := Item{Class: x.Class}
	switch x.Class {
	case Session:
		y.A = node(d, x.A)
		always(d, 2, 0)
		y.B = small(d, x.B)
		y.C = node(d, x.C)
	case Hop:
		y.A = node(d, x.A)
		always(d, 4, 0)
	case Times:
		y.U = d.number(4, 0, math.MaxUint32, x.U)
	case Fault:
		y.A = node(d, x.A)
		always(d, 1, 0)
		y.B = upTo(d, 1, maxByte, x.B)
		y.C = small(d, x.C)
	case Style:
		always(d, 4, sharedExplicit)
	case Spec, Tspec:
		y.U = d.number(8, 0, math.MaxUint64, x.U)
	case Filter, Sender:
		y.A = node(d, x.A)
		always(d, 2, 0)
		y.B = small(d, x.B)
	case Label:
		y.A = upTo(d, 4, api.MaxLabel, x.A)
	case Request:
		always(d, 2, 0)
		y.A = small(d, x.A)
	case Route, Record:
		y.L = hops(d, x.L)
	case Serial:
		always(d, 4, 0)
		y.U = d.number(4, 0, math.MaxUint32, x.U)
	case Attr:
		y.W = attributes(d, x.W)
	}
	return y
}

// hops: a list that is too long is cut, which the caller sees: a field that differs, or bytes that are left.
func hops(d direction, l []int) []int {
	out := make([]int, min(d.count(hopBytes, len(l)), api.MaxHops))
	copy(out, l)
	for i, n := range out {
		always(d, 1, hopKind)
		always(d, 1, hopBytes)
		out[i] = node(d, n)
		always(d, 1, hopPrefix)
		always(d, 1, 0)
	}
	return out
}

// attributes: the bandwidth is not among them; objects of another class have it.
func attributes(d direction, w api.Want) api.Want {
	var out api.Want
	out.None = groups(d, w.None)
	out.Any = groups(d, w.Any)
	out.All = groups(d, w.All)
	out.Setup = upTo(d, 1, maxPriority, w.Setup)
	out.Hold = upTo(d, 1, maxPriority, w.Hold)
	always(d, 2, 0)
	return out
}

func groups(d direction, g uint32) uint32 {
	return uint32(d.number(4, 0, math.MaxUint32, uint64(g)))
}

func small(d direction, n int) int {
	return upTo(d, 2, maxSmall, n)
}

// node is a node's number, as the last byte of its address.
func node(d direction, n int) int {
	always(d, 3, network)
	return upTo(d, 1, api.MaxNodes-1, n)
}

// upTo is a number from 0 to most; a negative one becomes greater than any of those.
func upTo(d direction, width, most, n int) int {
	return int(d.number(width, 0, uint64(most), uint64(n)))
}

// always is a number that can't be another one.
func always(d direction, width int, u uint64) {
	d.number(width, u, u, u)
}
