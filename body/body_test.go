package body

import (
	"bytes"
	"encoding/hex"
	"fmt"
	"math"
	"slices"
	"strings"
	"testing"

	"viaduct/api"
	"viaduct/object"
)

// form is what the document says of a class: the Type, the body as bytes in hexadecimal, each with a range where it is not one byte alone (00-0f; ** is any byte), and the fields that an item may have.
type form struct {
	class, kind int
	body        string
	fields      string
	parts       [][2]byte // the body again: the least and the greatest value of each byte
}

const hop = "01 08 0a 00 00 00-0f 20 00"

func forms() []form {
	all := []form{
		{class: 1, kind: 7, body: "0a 00 00 00-0f 00 00 ** ** 0a 00 00 00-0f", fields: "A B C"},
		{class: 3, kind: 1, body: "0a 00 00 00-0f 00 00 00 00", fields: "A"},
		{class: 5, kind: 1, body: "** ** ** **", fields: "U"},
		{class: 6, kind: 1, body: "0a 00 00 00-0f 00 ** ** **", fields: "A B C"},
		{class: 8, kind: 1, body: "00 00 00 12", fields: ""},
		{class: 9, kind: 2, body: "** ** ** ** ** ** ** **", fields: "U"},
		{class: 10, kind: 7, body: "0a 00 00 00-0f 00 00 ** **", fields: "A B"},
		{class: 11, kind: 7, body: "0a 00 00 00-0f 00 00 ** **", fields: "A B"},
		{class: 12, kind: 2, body: "** ** ** ** ** ** ** **", fields: "U"},
		{class: 16, kind: 1, body: "00 00-0f ** **", fields: "A"},
		{class: 19, kind: 1, body: "00 00 ** **", fields: "A"},
		{class: 23, kind: 1, body: "00 00 00 00 ** ** ** **", fields: "U"},
		{class: 207, kind: 1, body: "** ** ** ** ** ** ** ** ** ** ** ** 00-07 00-07 00 00", fields: "None Any All Setup Hold"},
	}
	for n := range 17 {
		body := strings.TrimSuffix(strings.Repeat(hop+" ", n), " ")
		all = append(all, form{class: 20, kind: 1, body: body, fields: "L"}, form{class: 21, kind: 1, body: body, fields: "L"})
	}
	for i := range all {
		for _, part := range strings.Fields(all[i].body) {
			all[i].parts = append(all[i].parts, ends(part))
		}
	}
	return all
}

// has says whether b is a body of the form.
func (f form) has(b []byte) bool {
	if len(b) != len(f.parts) {
		return false
	}
	for i, x := range b {
		if x < f.parts[i][0] || x > f.parts[i][1] {
			return false
		}
	}
	return true
}

// ends: the least and the greatest byte that a part of a form stands for.
func ends(part string) [2]byte {
	if part == "**" {
		return [2]byte{0, 255}
	}
	from, to, ranged := strings.Cut(part, "-")
	if !ranged {
		to = from
	}
	return [2]byte{raw(from)[0], raw(to)[0]}
}

// known: the forms, made once, because every byte that is tried is held against them.
var known = forms()

// fitting says whether the document has an item for an object.
func fitting(o object.Object) bool {
	return slices.ContainsFunc(known, func(f form) bool {
		return f.class == o.Class && f.kind == o.Type && f.has(o.Body)
	})
}

// raw: bytes from their hexadecimal digits.
func raw(s string) []byte {
	b, err := hex.DecodeString(strings.ReplaceAll(s, " ", ""))
	if err != nil {
		panic(err)
	}
	return b
}

// expected is the object of a valid item by another way: digits.
func expected(x Item) object.Object {
	switch x.Class {
	case 1:
		return object.Object{Class: 1, Type: 7, Body: raw(fmt.Sprintf("0a0000%02x 0000%04x 0a0000%02x", x.A, x.B, x.C))}
	case 3:
		return object.Object{Class: 3, Type: 1, Body: raw(fmt.Sprintf("0a0000%02x 00000000", x.A))}
	case 6:
		return object.Object{Class: 6, Type: 1, Body: raw(fmt.Sprintf("0a0000%02x 00%02x%04x", x.A, x.B, x.C))}
	case 8:
		return object.Object{Class: 8, Type: 1, Body: raw("00000012")}
	case 5:
		return object.Object{Class: 5, Type: 1, Body: raw(fmt.Sprintf("%08x", x.U))}
	case 9, 12:
		return object.Object{Class: x.Class, Type: 2, Body: raw(fmt.Sprintf("%016x", x.U))}
	case 10, 11:
		return object.Object{Class: x.Class, Type: 7, Body: raw(fmt.Sprintf("0a0000%02x 0000%04x", x.A, x.B))}
	case 16, 19:
		return object.Object{Class: x.Class, Type: 1, Body: raw(fmt.Sprintf("%08x", x.A))}
	case 20, 21:
		var s strings.Builder
		for _, n := range x.L {
			fmt.Fprintf(&s, "01080a0000%02x2000", n)
		}
		return object.Object{Class: x.Class, Type: 1, Body: raw(s.String())}
	case 23:
		return object.Object{Class: 23, Type: 1, Body: raw(fmt.Sprintf("00000000%08x", x.U))}
	case 207:
		w := x.W
		return object.Object{Class: 207, Type: 1, Body: raw(fmt.Sprintf("%08x%08x%08x%02x%02x0000", w.None, w.Any, w.All, w.Setup, w.Hold))}
	}
	panic("no such class")
}

// mix answers numbers without an order to be seen, the same in every run.
func mix(seed uint64) func(n int) int {
	return func(n int) int {
		seed = seed*6364136223846793005 + 1442695040888963407
		return int(((seed ^ seed>>29) >> 8) % uint64(n))
	}
}

func clone(x Item) Item {
	x.L = slices.Clone(x.L)
	return x
}

func equal(o, p object.Object) bool {
	return o.Class == p.Class && o.Type == p.Type && bytes.Equal(o.Body, p.Body)
}

func equalItems(x, y Item) bool {
	return fmt.Sprintf("%+v", x) == fmt.Sprintf("%+v", y)
}

// items: valid ones of every class, at the edges of each field and between; each of them once.
func items() []Item {
	smalls := []int{0, 1, 255, 256, 258, 32767, 32768, 65534, 65535}
	var all []Item
	for n := range 16 {
		all = append(all, Item{Class: 3, A: n})
		for _, b := range smalls {
			all = append(all, Item{Class: 10, A: n, B: b}, Item{Class: 11, A: n, B: b})
			all = append(all, Item{Class: 1, A: n, B: b, C: 15 - n}, Item{Class: 1, A: n, B: b, C: 0x5a >> (n % 4) & 15})
			all = append(all, Item{Class: 6, A: n, B: n, C: b}, Item{Class: 6, A: n, B: 255 - n, C: b}, Item{Class: 6, A: n, B: 127 + n/8, C: b})
		}
	}
	for _, b := range smalls {
		all = append(all, Item{Class: 19, A: b}, Item{Class: 16, A: b})
	}
	for _, a := range []int{3, 16, 65536, 524287, 524288, 1048574, 1048575} {
		all = append(all, Item{Class: 16, A: a})
	}
	for _, u := range []uint64{0, 1, 9, 255, 256, 65536, 1<<24 + 2, 1<<31 - 1, 1 << 31, 1<<32 - 2, 1<<32 - 1} {
		all = append(all, Item{Class: 5, U: u}, Item{Class: 23, U: u}, Item{Class: 9, U: u}, Item{Class: 12, U: u})
	}
	for _, u := range []uint64{1 << 32, 1<<53 + 1, 1<<63 - 1, 1 << 63, 1<<64 - 2, 1<<64 - 1, 0x0123456789abcdef} {
		all = append(all, Item{Class: 9, U: u}, Item{Class: 12, U: u})
	}
	all = append(all, Item{Class: 8})
	all = append(all, lists()...)
	return append(all, wants()...)
}

// lists: routes and records of every length, with nodes at random, with one node alone, and nodes more than once.
func lists() []Item {
	next := mix(7)
	var all []Item
	for n := range 17 {
		l, m := make([]int, n), make([]int, n)
		for i := range l {
			l[i] = next(16)
			m[i] = 15
		}
		all = append(all, Item{Class: 20, L: l}, Item{Class: 21, L: slices.Clone(l)})
		if n > 0 {
			all = append(all, Item{Class: 20, L: m}, Item{Class: 21, L: slices.Clone(m)})
		}
	}
	return all
}

func wants() []Item {
	var all []Item
	for s := range 8 {
		for h := range 8 {
			all = append(all, Item{Class: 207, W: api.Want{Setup: s, Hold: h}})
		}
	}
	for _, g := range []uint32{1, 0x01020304, 1 << 31, 1<<32 - 1} {
		all = append(all,
			Item{Class: 207, W: api.Want{Any: g}},
			Item{Class: 207, W: api.Want{All: g}},
			Item{Class: 207, W: api.Want{None: g}},
			Item{Class: 207, W: api.Want{Setup: 7, Hold: 3, Any: g, All: ^g, None: g ^ 0xff00}},
		)
	}
	return all
}

// packs asks Pack for this object.
func packs(t *testing.T, x Item, want object.Object) {
	t.Helper()
	if o, e := Pack(x); e != api.OK || !equal(o, want) {
		t.Errorf("Pack(%+v) = %x, %d, not %x", x, o, e, want)
	}
}

// noPack asks Pack for ErrArg, without anything beside it.
func noPack(t *testing.T, x Item) {
	t.Helper()
	if o, e := Pack(x); e != api.ErrArg || o.Class != 0 || o.Type != 0 || len(o.Body) != 0 {
		t.Errorf("Pack(%+.80v) = %x, %d, not ErrArg alone", x, o, e)
	}
}

// unpacks asks Unpack for this item.
func unpacks(t *testing.T, o object.Object, want Item) {
	t.Helper()
	if x, e := Unpack(o); e != api.OK || !equalItems(x, want) {
		t.Errorf("Unpack(%x) = %+v, %d, not %+v", o, x, e, want)
	}
}

// noUnpack asks Unpack for ErrForm, without anything beside it.
func noUnpack(t *testing.T, o object.Object) {
	t.Helper()
	if x, e := Unpack(o); e != api.ErrForm || !equalItems(x, Item{}) {
		t.Errorf("Unpack(%.80x) = %+v, %d, not ErrForm alone", o, x, e)
	}
}

func TestClasses(t *testing.T) {
	got := []int{Session, Hop, Times, Fault, Style, Spec, Filter, Sender, Tspec, Label, Request, Route, Record, Serial, Attr}
	want := []int{1, 3, 5, 6, 8, 9, 10, 11, 12, 16, 19, 20, 21, 23, 207}
	if !slices.Equal(got, want) {
		t.Errorf("the classes are %v, not %v", got, want)
	}
}

// TestExamples: those of the document, P7.1 and P7.2.
func TestExamples(t *testing.T) {
	session := object.Object{Class: 1, Type: 7, Body: raw("0a 00 00 03 00 00 01 02 0a 00 00 01")}
	packs(t, Item{Class: Session, A: 3, B: 258, C: 1}, session)
	unpacks(t, session, Item{Class: Session, A: 3, B: 258, C: 1})
	route := object.Object{Class: 20, Type: 1, Body: raw("01 08 0a 00 00 01 20 00 01 08 0a 00 00 02 20 00")}
	packs(t, Item{Class: Route, L: []int{1, 2}}, route)
	unpacks(t, route, Item{Class: Route, L: []int{1, 2}})
	noPack(t, Item{Class: Hop, A: 16})
	noUnpack(t, object.Object{Class: 3, Type: 1, Body: raw("0a 00 00 03 00 00 00 01")})
	unpacks(t, object.Object{Class: 8, Type: 1, Body: raw("00 00 00 12")}, Item{Class: Style})
}

// TestPack: P7.1, the object of a valid item.
func TestPack(t *testing.T) {
	for _, x := range items() {
		packs(t, x, expected(x))
	}
	packs(t, Item{Class: 20, L: []int{}}, object.Object{Class: 20, Type: 1})
	packs(t, Item{Class: 21}, object.Object{Class: 21, Type: 1})
	packs(t, Item{Class: 3, A: 1, L: []int{}}, expected(Item{Class: 3, A: 1}))
}

// TestPackNoClass: P7.1, classes that are none.
func TestPackNoClass(t *testing.T) {
	have := []int{1, 3, 5, 6, 8, 9, 10, 11, 12, 16, 19, 20, 21, 23, 207}
	classes := []int{math.MinInt, -255, -207, -1, 256 + 1, 256 + 207, 65536 + 8, 1<<32 + 8, math.MaxInt}
	for c := range 256 {
		if !slices.Contains(have, c) {
			classes = append(classes, c)
		}
	}
	for _, c := range classes {
		noPack(t, Item{Class: c})
		noPack(t, Item{Class: c, A: 1, B: 1, C: 1})
		for kind := range 9 {
			noUnpack(t, object.Object{Class: c, Type: kind})
			noUnpack(t, object.Object{Class: c, Type: kind, Body: raw("00000012")})
		}
	}
}

// TestPackRange: P7.1, each field of each class beyond its edges.
func TestPackRange(t *testing.T) {
	wild := []int{math.MinInt, math.MinInt32, -65536, -256, -16, -1, 1 << 20, 1<<20 + 1, 1 << 32, 1<<32 + 1, math.MaxInt}
	beyond := func(more ...int) []int { return append(more, wild...) }
	for _, n := range beyond(16, 17, 255, 256, 257, 65536) {
		for _, c := range []int{1, 3, 6, 10, 11} {
			noPack(t, Item{Class: c, A: n})
		}
		noPack(t, Item{Class: 1, A: 1, B: 1, C: n})
		for _, c := range []int{20, 21} {
			noPack(t, Item{Class: c, L: []int{n}})
			noPack(t, Item{Class: c, L: []int{0, n, 0}})
			noPack(t, Item{Class: c, L: append(make([]int, 15), n)})
		}
	}
	for _, n := range beyond(65536, 65537) {
		for _, c := range []int{1, 10, 11} {
			noPack(t, Item{Class: c, B: n})
		}
		noPack(t, Item{Class: 6, C: n})
		noPack(t, Item{Class: 19, A: n})
	}
	for _, n := range beyond(256, 257, 65536) {
		noPack(t, Item{Class: 6, B: n})
	}
	for _, n := range wild {
		noPack(t, Item{Class: 16, A: n})
	}
	for _, n := range beyond(8, 9, 255, 256, 257) {
		noPack(t, Item{Class: 207, W: api.Want{Setup: n}})
		noPack(t, Item{Class: 207, W: api.Want{Hold: n}})
	}
	for _, u := range []uint64{1 << 32, 1<<32 + 1, 1 << 33, 1 << 63, 1<<64 - 1} {
		noPack(t, Item{Class: 5, U: u})
		noPack(t, Item{Class: 23, U: u})
	}
	for _, n := range []int{17, 18, 32, 272, 1 << 16, 1<<16 + 1} {
		noPack(t, Item{Class: 20, L: make([]int, n)})
		noPack(t, Item{Class: 21, L: make([]int, n)})
	}
}

// TestPackOther: P7.1, fields that are not mentioned for a class.
func TestPackOther(t *testing.T) {
	change := map[string]func(x *Item){
		"A":     func(x *Item) { x.A = 1 },
		"B":     func(x *Item) { x.B = 1 },
		"C":     func(x *Item) { x.C = 1 },
		"U":     func(x *Item) { x.U = 1 },
		"L":     func(x *Item) { x.L = []int{0} },
		"Bw":    func(x *Item) { x.W.Bw = 1 },
		"Setup": func(x *Item) { x.W.Setup = 1 },
		"Hold":  func(x *Item) { x.W.Hold = 1 },
		"Any":   func(x *Item) { x.W.Any = 1 },
		"All":   func(x *Item) { x.W.All = 1 },
		"None":  func(x *Item) { x.W.None = 1 },
	}
	for _, f := range known {
		for name, set := range change {
			x := Item{Class: f.class}
			set(&x)
			if slices.Contains(strings.Fields(f.fields), name) {
				packs(t, x, expected(x))
			} else {
				noPack(t, x)
			}
		}
		noPack(t, Item{Class: f.class, W: api.Want{Bw: 1 << 63}})
	}
	noPack(t, Item{Class: 8, A: -1})
	noPack(t, Item{Class: 5, A: -1, U: 1})
	noPack(t, Item{Class: 20, L: []int{1, 2}, A: math.MinInt})
}

// TestUnpack: P7.2, the item of an object.
func TestUnpack(t *testing.T) {
	for _, x := range items() {
		unpacks(t, expected(x), x)
	}
	unpacks(t, object.Object{Class: 20, Type: 1, Body: []byte{}}, Item{Class: 20})
}

// TestUnpackType: P7.2, Types that a class doesn't have.
func TestUnpackType(t *testing.T) {
	for _, f := range known {
		for _, x := range items() {
			if x.Class != f.class {
				continue
			}
			o := expected(x)
			for _, kind := range []int{math.MinInt, -1, 0, 1, 2, 3, 7, 8, 255, f.kind + 256, f.kind - 256, f.kind + 1<<32, math.MaxInt} {
				if o.Type = kind; kind != f.kind {
					noUnpack(t, o)
				}
			}
			break
		}
	}
}

// TestUnpackLength: P7.2, bodies that are longer or shorter than those of their class.
func TestUnpackLength(t *testing.T) {
	for _, f := range known {
		for n := range 200 {
			for _, x := range []byte{0, 0x0a, 0x12} {
				o := object.Object{Class: f.class, Type: f.kind, Body: bytes.Repeat([]byte{x}, n)}
				if !fitting(o) {
					noUnpack(t, o)
				}
			}
		}
	}
	for _, x := range items() {
		o := expected(x)
		for n := range o.Body {
			short := object.Object{Class: o.Class, Type: o.Type, Body: o.Body[:n]}
			if !fitting(short) {
				noUnpack(t, short)
			}
		}
		for n := 1; n <= 8; n++ {
			noUnpack(t, object.Object{Class: o.Class, Type: o.Type, Body: append(bytes.Clone(o.Body), make([]byte, n)...)})
		}
	}
	for _, c := range []int{20, 21} {
		for _, n := range []int{17, 18, 32, 272, 512, 1 << 13} {
			noUnpack(t, object.Object{Class: c, Type: 1, Body: bytes.Repeat(raw("01080a0000052000"), n)})
		}
	}
}

// TestUnpackBytes: P7.2 and P7.4, every byte of a body by every value: what the form has is an item's object, nothing else is.
func TestUnpackBytes(t *testing.T) {
	done := map[int]int{}
	for _, x := range items() {
		if done[x.Class]++; done[x.Class] > 4 && len(x.L) != 16 {
			continue
		}
		o := expected(x)
		for i := range o.Body {
			before := o.Body[i]
			for v := range 256 {
				o.Body[i] = byte(v)
				if !fitting(o) {
					noUnpack(t, o)
				} else if y, e := Unpack(o); e != api.OK || !equal(expected(y), o) {
					t.Errorf("Unpack(%x) = %+v, %d", o, y, e)
				}
			}
			o.Body[i] = before
		}
	}
}

// TestUnpackAny: P7.2 and P7.4, bodies at random, near to a form and far from it.
func TestUnpackAny(t *testing.T) {
	next := mix(11)
	for range 20000 {
		f := known[next(len(known))]
		o := object.Object{Class: f.class, Type: f.kind}
		for _, p := range f.parts {
			b := p[0] + byte(next(int(p[1]-p[0])+1))
			if next(30) == 0 {
				b = byte(next(256))
			}
			o.Body = append(o.Body, b)
		}
		y, e := Unpack(o)
		if !fitting(o) {
			noUnpack(t, o)
		} else if e != api.OK || !equal(expected(y), o) {
			t.Errorf("Unpack(%x) = %+v, %d", o, y, e)
		}
	}
}

// TestInverse: P7.3.
func TestInverse(t *testing.T) {
	for _, x := range items() {
		o, e := Pack(x)
		if e != api.OK {
			t.Fatalf("Pack(%+v): %d", x, e)
		}
		unpacks(t, o, x)
	}
}

// TestOneForm: P7.4, an item's object packs to itself, and no two items have one object.
func TestOneForm(t *testing.T) {
	of := map[string]Item{}
	for _, x := range items() {
		o := expected(x)
		y, e := Unpack(o)
		if e != api.OK {
			t.Fatalf("Unpack(%x): %d", o, e)
		}
		packs(t, y, o)
		o, _ = Pack(x)
		name := fmt.Sprintf("%d %d %x", o.Class, o.Type, o.Body)
		if z, have := of[name]; have && !equalItems(x, z) {
			t.Errorf("%+v and %+v have one object: %s", x, z, name)
		}
		of[name] = x
	}
}

// TestAlone: R4 and R6, nothing is shared, kept or changed.
func TestAlone(t *testing.T) {
	for _, x := range items() {
		given := clone(x)
		o, _ := Pack(given)
		p, _ := Pack(given)
		if !equalItems(given, x) {
			t.Fatalf("Pack changed %+v to %+v", x, given)
		}
		for i := range o.Body {
			o.Body[i] ^= 0xff
		}
		for i := range given.L {
			given.L[i]++
		}
		if !equal(p, expected(x)) {
			t.Errorf("objects of %+v share memory", x)
		}
		y, _ := Unpack(p)
		z, _ := Unpack(p)
		if !equal(p, expected(x)) {
			t.Errorf("Unpack changed the object of %+v", x)
		}
		for i := range y.L {
			y.L[i]++
		}
		for i := range p.Body {
			p.Body[i] ^= 0xff
		}
		if !equalItems(z, x) {
			t.Errorf("items like %+v share memory", x)
		}
	}
}
