package message

import (
	"bytes"
	"encoding/hex"
	"fmt"
	"math"
	"reflect"
	"slices"
	"strings"
	"testing"

	"viaduct/api"
	"viaduct/object"
)

// raw: bytes from their hexadecimal digits.
func raw(s string) []byte {
	b, err := hex.DecodeString(strings.ReplaceAll(s, " ", ""))
	if err != nil {
		panic(err)
	}
	return b
}

// mix answers numbers without an order to be seen, the same in every run.
func mix(seed uint64) func(n int) int {
	return func(n int) int {
		seed = seed*6364136223846793005 + 1442695040888963407
		return int(((seed ^ seed>>29) >> 8) % uint64(n))
	}
}

// sealed is b with its checksum by another way: the rest of a division.
func sealed(b []byte) []byte {
	b = bytes.Clone(b)
	b[2], b[3] = 0, 0
	total := 0
	for i, x := range b {
		total += int(x) << (8 * (1 - i%2))
	}
	left := total % 65535
	if left == 0 {
		left = 65535 // the words add up to a multiple that is not 0, so that the sum ends at 65535
	}
	b[2], b[3] = byte((65535-left)/256), byte((65535-left)%256)
	return b
}

// whole is the encoding of a message of these objects.
func whole(kind, ttl int, objects string) []byte {
	b := raw(objects)
	n := len(b) + 8
	return sealed(append([]byte{0x10, byte(kind), 0, 0, byte(ttl), 0, byte(n / 256), byte(n % 256)}, b...))
}

// parts of the encoding of a message, in digits.
func sessionOf(m Message) string {
	return fmt.Sprintf("0010 01 07 0a0000%02x 0000%04x 0a0000%02x ", m.Key.Tail, m.Key.Tunnel, m.Key.Head)
}

func hopOf(m Message) string {
	return fmt.Sprintf("000c 03 01 0a0000%02x 00000000 ", m.From)
}

func timesOf(m Message) string {
	return fmt.Sprintf("0008 05 01 %08x ", m.Period)
}

func faultOf(m Message) string {
	return fmt.Sprintf("000c 06 01 0a0000%02x 00%02x 0000 ", m.Where, m.Code)
}

func lspOf(class string, m Message) string {
	return fmt.Sprintf("000c %s 07 0a0000%02x 0000%04x ", class, m.Key.Head, m.Key.Lsp)
}

func bandwidthOf(class string, m Message) string {
	return fmt.Sprintf("000c %s 02 %016x ", class, m.Want.Bw)
}

func hopsOf(class string, l []int) string {
	s := fmt.Sprintf("%04x %s 01 ", 4+8*len(l), class)
	for _, n := range l {
		s += fmt.Sprintf("01080a0000%02x2000 ", n)
	}
	return s
}

const (
	requestDigits = "0008 13 01 00000800 "
	styleDigits   = "0008 08 01 00000012 "
)

// expected is the encoding of a valid message by another way: digits.
func expected(m Message) []byte {
	s := sessionOf(m)
	switch m.Type {
	case 1:
		w := m.Want
		s += hopOf(m) + timesOf(m) + hopsOf("14", m.Route) + requestDigits
		s += fmt.Sprintf("0014 cf 01 %08x %08x %08x %02x%02x 0000 ", w.None, w.Any, w.All, w.Setup, w.Hold)
		s += lspOf("0b", m) + bandwidthOf("0c", m) + hopsOf("15", m.Record)
	case 2:
		s += hopOf(m) + timesOf(m) + fmt.Sprintf("000c 17 01 00000000 %08x ", m.Serial) + styleDigits
		s += bandwidthOf("09", m) + lspOf("0a", m) + fmt.Sprintf("0008 10 01 %08x", m.Label)
	case 3:
		s += faultOf(m) + lspOf("0b", m)
	case 4:
		s += hopOf(m) + faultOf(m) + styleDigits + lspOf("0a", m)
	case 5:
		s += hopOf(m) + lspOf("0b", m)
	case 6:
		s += hopOf(m) + styleDigits + lspOf("0a", m)
	case 7:
		s += faultOf(m) + styleDigits + lspOf("0a", m)
	default:
		panic("no such type")
	}
	return whole(m.Type, m.Ttl, s)
}

// The forms of messages by their types: each byte in digits, with a range where it is not one byte alone (** is any byte). HH is the head's number, the same wherever it is. The two bytes of the checksum are any here.
const (
	nodeForm    = "0a 00 00 00-0f "
	headForm    = "0a 00 00 HH "
	sessionForm = "00 10 01 07 " + nodeForm + "00 00 ** ** " + headForm
	hopForm     = "00 0c 03 01 " + nodeForm + "00 00 00 00 "
	timesForm   = "00 08 05 01 ** ** ** ** "
	faultForm   = "00 0c 06 01 " + nodeForm + "00 ** 00 00 "
	styleForm   = "00 08 08 01 00 00 00 12 "
	senderForm  = "00 0c 0b 07 " + headForm + "00 00 ** ** "
	filterForm  = "00 0c 0a 07 " + headForm + "00 00 ** ** "
	amount      = "** ** ** ** ** ** ** ** "
	attrForm    = "00 14 cf 01 ** ** ** ** " + amount + "00-07 00-07 00 00 "
	onePart     = "01 08 " + nodeForm + "20 00 "
)

// listForm is that of a route or a record of n nodes.
func listForm(class string, n int) string {
	return fmt.Sprintf("00 %02x %s 01 ", 4+8*n, class) + strings.Repeat(onePart, n)
}

// form is what the document says of the bytes of a message's objects.
type form struct {
	kind  int
	parts [][2]byte // the least and the greatest value of each byte
	heads []int     // where the head's number is
}

func newForm(kind int, s string) form {
	f := form{kind: kind}
	for i, part := range strings.Fields(s) {
		switch {
		case part == "HH":
			f.heads = append(f.heads, i)
			f.parts = append(f.parts, [2]byte{0, 15})
		case part == "**":
			f.parts = append(f.parts, [2]byte{0, 255})
		case len(part) == 5:
			f.parts = append(f.parts, [2]byte{raw(part[:2])[0], raw(part[3:])[0]})
		default:
			f.parts = append(f.parts, [2]byte{raw(part)[0], raw(part)[0]})
		}
	}
	return f
}

// known: all forms, made once, because everything that is tried is held against them.
var known = forms()

func forms() []form {
	all := []form{
		newForm(2, sessionForm+hopForm+timesForm+"00 0c 17 01 00 00 00 00 ** ** ** ** "+styleForm+"00 0c 09 02 "+amount+filterForm+"00 08 10 01 00 00-0f ** **"),
		newForm(3, sessionForm+faultForm+senderForm),
		newForm(4, sessionForm+hopForm+faultForm+styleForm+filterForm),
		newForm(5, sessionForm+hopForm+senderForm),
		newForm(6, sessionForm+hopForm+styleForm+filterForm),
		newForm(7, sessionForm+faultForm+styleForm+filterForm),
	}
	for route := range 17 {
		for record := range 17 {
			all = append(all, newForm(1, sessionForm+hopForm+timesForm+listForm("14", route)+"00 08 13 01 00 00 08 00 "+attrForm+senderForm+"00 0c 0c 02 "+amount+listForm("15", record)))
		}
	}
	return all
}

// has says whether b are the objects of a message of this form.
func (f form) has(b []byte) bool {
	if len(b) != len(f.parts) {
		return false
	}
	for i, x := range b {
		if x < f.parts[i][0] || x > f.parts[i][1] {
			return false
		}
	}
	return b[f.heads[0]] == b[f.heads[1]]
}

// fitting says whether b, whose head and checksum are right, is the encoding of a message.
func fitting(b []byte) bool {
	return slices.ContainsFunc(known, func(f form) bool {
		return f.kind == int(b[1]) && f.has(b[8:])
	})
}

func clone(m Message) Message {
	m.Route, m.Record = slices.Clone(m.Route), slices.Clone(m.Record)
	return m
}

// equal, by what is printed: so a field that was added would count too, and empty lists are equal.
func equal(m, n Message) bool {
	return fmt.Sprintf("%+v", m) == fmt.Sprintf("%+v", n)
}

// blank says whether a message has nothing in any field.
func blank(m Message) bool {
	if len(m.Route) == 0 && len(m.Record) == 0 {
		m.Route, m.Record = nil, nil
	}
	return reflect.DeepEqual(m, Message{})
}

// owned: the fields that messages of a type have, beside Ttl and those of the Key.
func owned(kind int) string {
	return []string{"", "From Period Bw Setup Hold Any All None Route Record", "From Period Serial Bw Label", "Where Code", "From Where Code", "From", "From", "Where Code"}[kind]
}

// setting changes one number of a message, by the name of its field; a node in a list is its only one.
func setting(name string, m *Message, n int) {
	switch name {
	case "Ttl":
		m.Ttl = n
	case "Tail":
		m.Key.Tail = n
	case "Tunnel":
		m.Key.Tunnel = n
	case "Head":
		m.Key.Head = n
	case "Lsp":
		m.Key.Lsp = n
	case "From":
		m.From = n
	case "Period":
		m.Period = n
	case "Serial":
		m.Serial = n
	case "Bw":
		m.Want.Bw = uint64(n)
	case "Setup":
		m.Want.Setup = n
	case "Hold":
		m.Want.Hold = n
	case "Any":
		m.Want.Any = uint32(n)
	case "All":
		m.Want.All = uint32(n)
	case "None":
		m.Want.None = uint32(n)
	case "Route":
		m.Route = []int{n}
	case "Record":
		m.Record = []int{n}
	case "Label":
		m.Label = n
	case "Where":
		m.Where = n
	case "Code":
		m.Code = n
	default:
		panic("no such field")
	}
}

// most is the greatest value of a field that messages may have.
func most(name string) int {
	switch name {
	case "Tail", "Head", "From", "Where", "Route", "Record":
		return 15
	case "Ttl", "Code":
		return 255
	case "Tunnel", "Lsp":
		return 65535
	case "Label":
		return 1<<20 - 1
	case "Setup", "Hold":
		return 7
	case "Bw":
		return math.MaxInt // all there are: no int is above
	}
	return 1<<32 - 1
}

var (
	keyFields = []string{"Ttl", "Tail", "Tunnel", "Head", "Lsp"}
	allFields = []string{"From", "Period", "Serial", "Bw", "Setup", "Hold", "Any", "All", "None", "Route", "Record", "Label", "Where", "Code"}
)

// fieldsOf: all fields that messages of a type have.
func fieldsOf(kind int) []string {
	return append(strings.Fields(owned(kind)), keyFields...)
}

// anyMessage: one of a type with all of its fields at random.
func anyMessage(next func(int) int, kind int) Message {
	m := Message{Type: kind}
	for _, name := range fieldsOf(kind) {
		n := next(most(name)/2+1)*2 + next(2)
		setting(name, &m, min(n, most(name)))
	}
	if kind == 1 {
		m.Route, m.Record = anyList(next), anyList(next)
	}
	return m
}

func anyList(next func(int) int) []int {
	l := make([]int, next(17))
	for i := range l {
		l[i] = next(16)
	}
	return l
}

// messages: valid ones of every type, with each field at its edges alone and all of them together, and at random.
func messages() []Message {
	var all []Message
	next := mix(3)
	for kind := 1; kind <= 7; kind++ {
		greatest := Message{Type: kind}
		all = append(all, Message{Type: kind})
		for _, name := range fieldsOf(kind) {
			setting(name, &greatest, most(name))
			for _, n := range []int{1, most(name) / 2, most(name) - 1, most(name)} {
				m := Message{Type: kind}
				setting(name, &m, n)
				all = append(all, m)
			}
		}
		all = append(all, greatest)
		for range 30 {
			all = append(all, anyMessage(next, kind))
		}
	}
	for n := range 17 {
		l := make([]int, n)
		for i := range l {
			l[i] = 15 - i%16
		}
		all = append(all, Message{Type: 1, Route: l}, Message{Type: 1, Record: slices.Clone(l)}, Message{Type: 1, Route: slices.Clone(l), Record: make([]int, 16)})
	}
	return append(all, Message{Type: 1, Want: api.Want{Bw: 1<<64 - 1}}, Message{Type: 2, Want: api.Want{Bw: 1<<64 - 1}}, Message{Type: 2, Want: api.Want{Bw: 1 << 63}})
}

// samples: one message of each type, whose fields all differ from zero, and a short and a long one.
func samples() []Message {
	next := mix(5)
	var all []Message
	for kind := 1; kind <= 7; kind++ {
		m := anyMessage(next, kind)
		for _, name := range fieldsOf(kind) {
			if name != "Route" && name != "Record" {
				setting(name, &m, max(most(name)/3*2, 1))
			}
		}
		all = append(all, m)
	}
	all[0].Route, all[0].Record = []int{3, 1, 4}, []int{15}
	return append(all, Message{Type: 1}, Message{Type: 1, Ttl: 255, Key: api.Key{Tail: 1, Tunnel: 2, Head: 3, Lsp: 4}, Route: make([]int, 16), Record: slices.Repeat([]int{9}, 16)})
}

// encodes asks May and Encode for this message's bytes.
func encodes(t *testing.T, m Message, want []byte) {
	t.Helper()
	if !May(m) {
		t.Errorf("May(%+v) is false", m)
	}
	if b, e := Encode(m); e != api.OK || !bytes.Equal(b, want) {
		t.Errorf("Encode(%+v) = %x, %d, not %x", m, b, e, want)
	}
}

// noEncode asks May for false and Encode for ErrArg, without anything beside it.
func noEncode(t *testing.T, m Message) {
	t.Helper()
	if May(m) {
		t.Errorf("May(%+.200v) is true", m)
	}
	if b, e := Encode(m); e != api.ErrArg || len(b) != 0 {
		t.Errorf("Encode(%+.200v) = %x, %d, not ErrArg alone", m, b, e)
	}
}

// decodes asks Decode for this message.
func decodes(t *testing.T, b []byte, want Message) {
	t.Helper()
	if m, e := Decode(b); e != api.OK || !equal(m, want) {
		t.Errorf("Decode(%x) = %+v, %d, not %+v", b, m, e, want)
	}
}

// noDecode asks Decode for an error, without anything beside it.
func noDecode(t *testing.T, b []byte, want api.Errno) {
	t.Helper()
	m, e := Decode(b)
	if e != want {
		t.Errorf("Decode(%.60x) of %d bytes = %+v, %d, not the error %d", b, len(b), m, e, want)
	}
	if !blank(m) {
		t.Errorf("Decode(%.60x) of %d bytes = %+v beside the error %d", b, len(b), m, e)
	}
}

func TestTypes(t *testing.T) {
	if got := []int{Path, Resv, PathErr, ResvErr, PathTear, ResvTear, ResvConf}; !slices.Equal(got, []int{1, 2, 3, 4, 5, 6, 7}) {
		t.Errorf("the types are %v", got)
	}
}

// TestExamples: that of the document, P8.1 and P8.2.
func TestExamples(t *testing.T) {
	m := Message{Type: PathTear, Ttl: 9, Key: api.Key{Tail: 3, Tunnel: 258, Head: 1, Lsp: 7}, From: 2}
	b := raw("10 05 ae 83 09 00 00 30  00 10 01 07 0a 00 00 03 00 00 01 02 0a 00 00 01  00 0c 03 01 0a 00 00 02 00 00 00 00  00 0c 0b 07 0a 00 00 01 00 00 00 07")
	encodes(t, m, b)
	decodes(t, b, m)
	n := m
	n.Label = 16
	noEncode(t, n)
	noDecode(t, []byte{0x10, 5, 0}, api.ErrShort)
	for i := range b {
		c := bytes.Clone(b)
		c[i]++
		if m, e := Decode(c); e == api.OK || !blank(m) {
			t.Errorf("Decode with the byte %d changed = %+v, %d", i, m, e)
		}
	}
}

// TestEncode: P8.1, the encoding of valid messages.
func TestEncode(t *testing.T) {
	for _, m := range messages() {
		encodes(t, m, expected(m))
	}
	empty := Message{Type: 1, Route: []int{}, Record: []int{}}
	encodes(t, empty, expected(Message{Type: 1}))
	encodes(t, Message{Type: 5, Route: []int{}, Record: []int{}}, expected(Message{Type: 5}))
}

// TestEncodeType: P8.1, numbers that are no type.
func TestEncodeType(t *testing.T) {
	for _, kind := range []int{math.MinInt, -7, -1, 0, 8, 9, 16, 128, 255, 256, 256 + 1, 256 + 7, 65536 + 5, 1<<32 + 1, math.MaxInt} {
		noEncode(t, Message{Type: kind})
		noEncode(t, Message{Type: kind, Ttl: 1, Key: api.Key{Tail: 1, Tunnel: 1, Head: 1, Lsp: 1}, From: 1})
	}
	noEncode(t, Message{})
}

// TestEncodeRange: P8.1, each field of each type beyond its edges, and at them.
func TestEncodeRange(t *testing.T) {
	for _, base := range samples() {
		for _, name := range fieldsOf(base.Type) {
			if slices.Contains([]string{"Bw", "Any", "All", "None"}, name) {
				continue // every number is allowed
			}
			for _, n := range []int{math.MinInt, math.MinInt32, -1 << 32, -65536, -256, -16, -1, most(name) + 1, most(name) + 2, 2*most(name) + 2, 1 << 32, 1<<32 + 1, 1 << 62, math.MaxInt} {
				m := clone(base)
				setting(name, &m, n)
				noEncode(t, m)
			}
			for _, n := range []int{0, 1, most(name)} {
				m := clone(base)
				setting(name, &m, n)
				encodes(t, m, expected(m))
			}
		}
	}
}

// TestEncodeLists: P8.1, routes and records that are too long, or have what is not a node.
func TestEncodeLists(t *testing.T) {
	for _, n := range []int{17, 18, 32, 272, 65536, 65537} {
		noEncode(t, Message{Type: 1, Route: make([]int, n)})
		noEncode(t, Message{Type: 1, Record: make([]int, n)})
	}
	for i := range 16 {
		for _, n := range []int{-1, 16, 256, 1 << 32, math.MinInt} {
			l := make([]int, 16)
			l[i] = n
			noEncode(t, Message{Type: 1, Route: l})
			noEncode(t, Message{Type: 1, Record: l})
		}
	}
}

// TestEncodeOther: P8.1, fields that messages of a type don't have.
func TestEncodeOther(t *testing.T) {
	for _, base := range samples() {
		for _, name := range allFields {
			if slices.Contains(fieldsOf(base.Type), name) {
				continue
			}
			for _, n := range []int{1, 2, 7, 16, -1, 1 << 32, math.MinInt, math.MaxInt} {
				if slices.Contains([]string{"Any", "All", "None"}, name) {
					n |= 1 // what is left of it in 32 bits must not be zero
				}
				m := clone(base)
				setting(name, &m, n)
				noEncode(t, m)
			}
		}
		if base.Type != Path {
			for _, l := range [][]int{{0}, {0, 0}, make([]int, 16), make([]int, 17), {-1}} {
				m := base
				m.Route = l
				noEncode(t, m)
				m = base
				m.Record = l
				noEncode(t, m)
			}
		}
	}
}

// TestDecode: P8.2, the message of bytes.
func TestDecode(t *testing.T) {
	for _, m := range messages() {
		decodes(t, expected(m), m)
	}
}

// TestDecodeSize: P8.2, ErrBig and ErrShort, whatever the bytes are.
func TestDecodeSize(t *testing.T) {
	b := expected(samples()[0])
	for _, n := range []int{4097, 4098, 4100, 8192, 65535, 65536, 65536 + 48, 1 << 20} {
		long := make([]byte, n)
		noDecode(t, long, api.ErrBig)
		copy(long, b)
		long[6], long[7] = byte(n>>8), byte(n)
		noDecode(t, sealed(long), api.ErrBig)
	}
	noDecode(t, nil, api.ErrShort)
	for n := range 8 {
		noDecode(t, make([]byte, n), api.ErrShort)
		noDecode(t, b[:n], api.ErrShort)
		noDecode(t, bytes.Repeat([]byte{0x10}, n), api.ErrShort)
	}
	noDecode(t, make([]byte, 8), api.ErrForm)
	noDecode(t, make([]byte, 4096), api.ErrForm)
	full := make([]byte, 4096)
	copy(full, []byte{0x10, 5, 0, 0, 0, 0, 0x10, 0})
	noDecode(t, full, api.ErrSum)
	copy(full[8:], []byte{0x0f, 0xf8, 1, 7})
	noDecode(t, sealed(full), api.ErrForm) // one object of 4088 bytes
	full[9] = 0xfc
	noDecode(t, sealed(full), api.ErrShort)
}

// TestDecodeHead: P8.2, ErrForm for the first byte, the sixth one, and the number of bytes, each of them wrong alone.
func TestDecodeHead(t *testing.T) {
	for _, m := range samples() {
		for v := 1; v < 256; v++ {
			for _, at := range []int{0, 5, 6, 7} {
				b := expected(m)
				b[at] ^= byte(v)
				noDecode(t, sealed(b), api.ErrForm)
				noDecode(t, b, api.ErrForm) // and ahead of ErrSum
			}
		}
		b := expected(m)
		for n := 8; n < len(b); n++ {
			noDecode(t, b[:n], api.ErrForm)
			noDecode(t, sealed(b[:n]), api.ErrForm)
		}
		for n := 1; n < 20; n++ {
			noDecode(t, append(bytes.Clone(b), make([]byte, n)...), api.ErrForm)
		}
	}
}

// TestDecodeSum: P8.2, every checksum but the right one; objects that are none don't count yet.
func TestDecodeSum(t *testing.T) {
	for _, m := range samples() {
		b := expected(m)
		good := int(b[2])<<8 | int(b[3])
		for v := 0; v < 65536; v += 1 + v%7 {
			if v == good || good == 0 && v == 65535 {
				continue
			}
			b[2], b[3] = byte(v>>8), byte(v)
			noDecode(t, b, api.ErrSum)
		}
		b = expected(m)
		b[9]++
		noDecode(t, b, api.ErrSum)
		b = expected(m)
		b[1] = 77
		noDecode(t, b, api.ErrSum)
	}
}

// TestDecodeOnes: P8.4, a checksum of ones is as right as one of zeros, but is not the one that Encode sets.
func TestDecodeOnes(t *testing.T) {
	found := 0
	for _, m := range samples() {
		if m.Type != 2 {
			continue
		}
		for n := range 1 << 17 {
			m.Serial = n
			if b := expected(m); b[2] == 0 && b[3] == 0 {
				found++
				decodes(t, b, m)
				b[2], b[3] = 255, 255
				noDecode(t, b, api.ErrForm)
			}
		}
	}
	if found == 0 {
		t.Error("no message has a checksum of zeros")
	}
}

// TestDecodeObjects: P8.2, what object.Decode says, ahead of whether they belong to a message: their type is none here, or one that has others.
func TestDecodeObjects(t *testing.T) {
	empty := "0004 01 07"
	for _, c := range []struct {
		objects string
		want    api.Errno
	}{
		{"00", api.ErrShort},
		{"0010 01", api.ErrShort},
		{"0008 01 07", api.ErrShort},
		{"0008 01 07 000000", api.ErrShort},
		{"ffff 01 07", api.ErrForm},
		{"0000 01 07", api.ErrForm},
		{"0003 01 07", api.ErrForm},
		{"0005 01 07 00000000", api.ErrForm},
		{"fffc 01 07 00000000", api.ErrShort},
		{empty + "000c 03 01", api.ErrShort},
		{empty + "0002 03 01", api.ErrForm},
		{strings.Repeat(empty, 33), api.ErrBig},
		{strings.Repeat(empty, 33) + "0000", api.ErrBig},
		{strings.Repeat(empty, 32) + "00", api.ErrBig},
		{strings.Repeat(empty, 31) + "00", api.ErrShort},
		{strings.Repeat(empty, 32), api.ErrForm},
		{empty, api.ErrForm},
		{"", api.ErrForm},
	} {
		for _, kind := range []int{0, 1, 2, 3, 4, 5, 6, 7, 8, 255} {
			noDecode(t, whole(kind, 255, c.objects), c.want)
		}
	}
}

// TestDecodeTypes: P8.2, the objects of one type in a message of another one.
func TestDecodeTypes(t *testing.T) {
	for _, m := range samples() {
		b := expected(m)
		for v := range 256 {
			b[1] = byte(v)
			if v != m.Type {
				noDecode(t, sealed(b), api.ErrForm)
			}
		}
	}
	for v := range 256 {
		noDecode(t, whole(v, 9, ""), api.ErrForm)
	}
}

// TestDecodeItems: P8.2, items that are missing, doubled, exchanged, or of another class.
func TestDecodeItems(t *testing.T) {
	for _, m := range samples() {
		b := expected(m)
		l, e := object.Decode(b[8:])
		if e != api.OK {
			t.Fatalf("the objects of %x: %d", b, e)
		}
		tries := func(changed []object.Object) {
			t.Helper()
			rest, _ := object.Encode(changed)
			if c := whole(m.Type, m.Ttl, hex.EncodeToString(rest)); !bytes.Equal(c, b) {
				noDecode(t, c, api.ErrForm)
			}
		}
		tries(nil)
		for i := range l {
			tries(slices.Delete(slices.Clone(l), i, i+1))
			tries(l[:i])
			for k := range l {
				tries(slices.Insert(slices.Clone(l), k, l[i]))
				exchanged := slices.Clone(l)
				exchanged[i], exchanged[k] = exchanged[k], exchanged[i]
				tries(exchanged)
			}
			for _, class := range []int{1, 3, 5, 6, 8, 9, 10, 11, 12, 16, 19, 20, 21, 23, 207, 0, 255} {
				other := slices.Clone(l)
				other[i].Class = class
				tries(other)
			}
		}
	}
}

// TestDecodeFields: P8.2, objects of valid items that no message has.
func TestDecodeFields(t *testing.T) {
	m := Message{Type: 1, Key: api.Key{Tail: 1, Tunnel: 2, Head: 3, Lsp: 4}}
	digits := func(m Message) string { return hex.EncodeToString(expected(m)[8:]) }
	change := func(m Message, from, to string) {
		t.Helper()
		from, to = strings.ReplaceAll(from, " ", ""), strings.ReplaceAll(to, " ", "")
		if strings.Count(digits(m), from) != 1 {
			t.Fatalf("%s is not once in %s", from, digits(m))
		}
		noDecode(t, whole(m.Type, m.Ttl, strings.Replace(digits(m), from, to, 1)), api.ErrForm)
	}
	for _, n := range []string{"0000", "0801", "0001", "ffff"} {
		change(m, "0008 1301 00000800", "0008 1301 0000"+n)
	}
	for _, kind := range []int{3, 4, 7} {
		m.Type = kind
		for _, n := range []string{"0001", "0100", "ffff"} {
			change(m, "000c 0601 0a000000 0000 0000", "000c 0601 0a000000 0000"+n)
		}
	}
	for kind := 1; kind <= 7; kind++ {
		m.Type = kind
		change(m, "00000002 0a000003", "00000002 0a000000") // the head of the session alone
		change(m, "0a000003 00000004", "0a000002 00000004") // and that of the path alone
	}
}

// TestDecodeBytes: P8.2 and P8.4, every byte of the objects by every value, with the right checksum: what the forms have is a message's encoding, nothing else is.
func TestDecodeBytes(t *testing.T) {
	for _, m := range samples() {
		b := expected(m)
		for i := 8; i < len(b); i++ {
			before := b[i]
			for v := range 256 {
				b[i] = byte(v)
				judged(t, sealed(b))
			}
			b[i] = before
		}
	}
}

// judged asks Decode for the message of b, whose head and checksum are right, if it fits a form, and for the error if not.
func judged(t *testing.T, b []byte) {
	t.Helper()
	if !fitting(b) {
		want := api.ErrForm
		if _, e := object.Decode(b[8:]); e != api.OK {
			want = e
		}
		noDecode(t, b, want)
		return
	}
	m, e := Decode(b)
	if e != api.OK || !bytes.Equal(expected(m), b) {
		t.Errorf("Decode(%x) = %+v, %d", b, m, e)
	}
}

// TestDecodeAny: P8.2 and P8.4, bytes at random, near to a form and far from it.
func TestDecodeAny(t *testing.T) {
	next := mix(13)
	for range 20000 {
		f := known[next(len(known))]
		if next(2) == 0 {
			f = known[next(6)] // not a Path
		}
		var b []byte
		for _, p := range f.parts {
			x := p[0] + byte(next(int(p[1]-p[0])+1))
			if next(400) == 0 {
				x = byte(next(256))
			}
			b = append(b, x)
		}
		if next(8) != 0 {
			b[f.heads[1]] = b[f.heads[0]]
		}
		judged(t, whole(f.kind, next(256), hex.EncodeToString(b)))
	}
}

// TestInverse: P8.3.
func TestInverse(t *testing.T) {
	next := mix(17)
	all := messages()
	for range 2000 {
		all = append(all, anyMessage(next, 1+next(7)))
	}
	for _, m := range all {
		b, e := Encode(m)
		if e != api.OK {
			t.Fatalf("Encode(%+v): %d", m, e)
		}
		decodes(t, b, m)
	}
}

// TestOneForm: P8.4, what is decoded encodes to the same bytes, and no two messages have the same ones.
func TestOneForm(t *testing.T) {
	of := map[string]Message{}
	for _, m := range messages() {
		b := expected(m)
		n, e := Decode(b)
		if e != api.OK {
			t.Fatalf("Decode(%x): %d", b, e)
		}
		encodes(t, n, b)
		if x, have := of[string(b)]; have && !equal(x, m) {
			t.Errorf("%+v and %+v have one encoding", x, m)
		}
		of[string(b)] = m
	}
}

// TestCorruption: P8.5, every byte by every other value.
func TestCorruption(t *testing.T) {
	for _, m := range samples() {
		b, e := Encode(m)
		if e != api.OK {
			t.Fatalf("Encode(%+v): %d", m, e)
		}
		for i := range b {
			for v := 1; v < 256; v++ {
				b[i] ^= byte(v)
				if n, e := Decode(b); e == api.OK || !blank(n) {
					t.Errorf("Decode of %+v with the byte %d changed by %x = %+v, %d", m, i, v, n, e)
				}
				b[i] ^= byte(v)
			}
		}
	}
}

// TestAlone: R4 and R6, nothing is shared, kept or changed.
func TestAlone(t *testing.T) {
	for _, m := range messages() {
		given, want := clone(m), expected(m)
		b, _ := Encode(given)
		c, _ := Encode(given)
		May(given)
		if !equal(given, m) {
			t.Fatalf("Encode changed %+v to %+v", m, given)
		}
		for i := range b {
			b[i] ^= 0xff
		}
		spoil(given)
		if !bytes.Equal(c, want) {
			t.Errorf("encodings of %+v share memory", m)
		}
		n, _ := Decode(c)
		p, _ := Decode(c)
		if !bytes.Equal(c, want) {
			t.Errorf("Decode changed %x to %x", want, c)
		}
		spoil(n)
		for i := range c {
			c[i] ^= 0xff
		}
		if !equal(p, m) {
			t.Errorf("messages like %+v share memory", m)
		}
	}
	m, _ := Decode(expected(Message{Type: 1, Route: []int{1, 2}, Record: []int{1, 2}}))
	m.Route = append(m.Route[:1], 9)
	if m.Record[1] != 2 || !slices.Equal(m.Route, []int{1, 9}) {
		t.Error("the lists of one message share memory")
	}
}

// spoil changes what the lists of a message hold.
func spoil(m Message) {
	for i := range m.Route {
		m.Route[i]++
	}
	for i := range m.Record {
		m.Record[i]++
	}
}
