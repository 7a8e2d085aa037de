package object

import (
	"bytes"
	"math"
	"slices"
	"testing"

	"viaduct/api"
)

// mix answers numbers without an order to be seen, the same in every run.
func mix(seed uint64) func(n int) int {
	return func(n int) int {
		seed = seed*6364136223846793005 + 1442695040888963407
		return int(((seed ^ seed>>29) >> 8) % uint64(n))
	}
}

// some answers n bytes of next.
func some(next func(int) int, n int) []byte {
	b := make([]byte, n)
	for i := range b {
		b[i] = byte(next(256))
	}
	return b
}

// of: an object with n bytes.
func of(class, kind, n int) Object {
	return Object{Class: class, Type: kind, Body: bytes.Repeat([]byte{0xa5}, n)}
}

func same(l, m []Object) bool {
	return slices.EqualFunc(l, m, func(o, p Object) bool {
		return o.Class == p.Class && o.Type == p.Type && bytes.Equal(o.Body, p.Body)
	})
}

func clone(l []Object) []Object {
	m := slices.Clone(l)
	for i := range m {
		m[i].Body = bytes.Clone(m[i].Body)
	}
	return m
}

// lists: of objects that may be, of every number of them, at the edges of the sizes and between.
func lists() [][]Object {
	next := mix(1)
	all := [][]Object{
		nil,
		{},
		{of(0, 0, 0)},
		{of(255, 255, 4092)},
		{of(0, 255, 4088)},
		{of(255, 0, 2044), of(0, 255, 2044)},
		{of(1, 2, 0), of(3, 4, 4088)},
		{of(1, 2, 4088), of(3, 4, 0)},
	}
	for n := 1; n <= 32; n++ {
		all = append(all, slices.Repeat([]Object{{}}, n), slices.Repeat([]Object{of(255, 255, (4096/n-4)/4*4)}, n))
		for range 10 {
			l := make([]Object, n)
			for i := range l {
				l[i] = Object{Class: next(256), Type: next(256), Body: some(next, 4*next(32))}
			}
			all = append(all, l)
		}
	}
	return all
}

// invalid: objects of which one part, or more, may not be.
func invalid() []Object {
	all := []Object{of(-1, 256, 1), of(256, -1, 4100)}
	for _, x := range []int{math.MinInt, -256, -255, -1, 256, 257, 511, 512, 65536, 1 << 32, math.MaxInt} {
		all = append(all, of(x, 0, 0), of(x, 7, 8), of(0, x, 0), of(7, x, 8))
	}
	for _, n := range []int{1, 2, 3, 5, 6, 7, 9, 1023, 4090, 4091, 4093, 4094, 4095} {
		all = append(all, of(1, 1, n))
	}
	for _, n := range []int{4097, 4098, 4099, 4100, 4104, 8192, 65528, 65532, 65536, 65540, 1 << 20} {
		all = append(all, of(1, 1, n))
	}
	return all
}

// expected is the encoding by another way: byte by byte.
func expected(l []Object) []byte {
	var b []byte
	for _, o := range l {
		n := len(o.Body) + 4
		b = append(b, byte(n/256), byte(n%256), byte(o.Class), byte(o.Type))
		b = append(b, o.Body...)
	}
	return b
}

// encode is Encode where it must not fail.
func encode(t *testing.T, l []Object) []byte {
	t.Helper()
	b, e := Encode(l)
	if e != api.OK {
		t.Fatalf("Encode(%v): %d", l, e)
	}
	return b
}

// noEncode asks Size and Encode for an error, without anything beside it.
func noEncode(t *testing.T, l []Object, want api.Errno) {
	t.Helper()
	if b, e := Encode(l); e != want || len(b) != 0 {
		t.Errorf("Encode of %d objects, %.80v = %d bytes, %d, not the error %d", len(l), l, len(b), e, want)
	}
	if n, e := Size(l); e != want || n != 0 {
		t.Errorf("Size of %d objects, %.80v = %d, %d, not the error %d", len(l), l, n, e, want)
	}
}

// decodes asks Decode for these objects.
func decodes(t *testing.T, b []byte, want []Object) {
	t.Helper()
	if l, e := Decode(b); e != api.OK || !same(l, want) {
		t.Errorf("Decode(%.40x) = %.80v, %d, not %.80v", b, l, e, want)
	}
}

// noDecode asks Decode for an error, without anything beside it.
func noDecode(t *testing.T, b []byte, want api.Errno) {
	t.Helper()
	if l, e := Decode(b); e != want || len(l) != 0 {
		t.Errorf("Decode(%.40x) of %d bytes = %.80v, %d, not the error %d", b, len(b), l, e, want)
	}
}

// P6.1

func TestEncode(t *testing.T) {
	for _, c := range []struct {
		l    []Object
		want []byte
	}{
		{nil, nil},
		{[]Object{}, nil},
		{[]Object{{}}, []byte{0, 4, 0, 0}},
		{[]Object{{Class: 255, Type: 1}}, []byte{0, 4, 255, 1}},
		{[]Object{{Class: 1, Type: 255, Body: []byte{}}}, []byte{0, 4, 1, 255}},
		{[]Object{{Class: 8, Type: 1, Body: []byte{9, 8, 7, 6}}}, []byte{0, 8, 8, 1, 9, 8, 7, 6}},
		{[]Object{{Class: 2, Type: 3, Body: []byte{0, 0, 0, 0, 0, 0, 0, 0}}, {Class: 4, Type: 5}, {Class: 4, Type: 5}},
			[]byte{0, 12, 2, 3, 0, 0, 0, 0, 0, 0, 0, 0, 0, 4, 4, 5, 0, 4, 4, 5}},
		// From a body of 252 bytes on the length needs both of its bytes.
		{[]Object{of(1, 1, 248)}, append([]byte{0, 252, 1, 1}, bytes.Repeat([]byte{0xa5}, 248)...)},
		{[]Object{of(1, 1, 252)}, append([]byte{1, 0, 1, 1}, bytes.Repeat([]byte{0xa5}, 252)...)},
		{[]Object{of(1, 1, 4092)}, append([]byte{16, 0, 1, 1}, bytes.Repeat([]byte{0xa5}, 4092)...)},
	} {
		if g := encode(t, c.l); !bytes.Equal(g, c.want) {
			t.Errorf("Encode(%v) = %x, not %x", c.l, g, c.want)
		}
		if n, e := Size(c.l); e != api.OK || n != len(c.want) {
			t.Errorf("Size(%v) = %d, %d, not %d", c.l, n, e, len(c.want))
		}
	}
}

func TestEncodeMany(t *testing.T) {
	for _, l := range lists() {
		want := expected(l)
		if g := encode(t, l); !bytes.Equal(g, want) {
			t.Errorf("Encode(%v) = %x, not %x", l, g, want)
		}
		if n, e := Size(l); e != api.OK || n != len(want) {
			t.Errorf("Size(%v) = %d, %d, not %d", l, n, e, len(want))
		}
	}
}

func TestEncodeTooManyObjects(t *testing.T) {
	for _, n := range []int{33, 34, 64, 1000} {
		noEncode(t, make([]Object, n), api.ErrBig)
		noEncode(t, slices.Repeat([]Object{of(1, 1, 4096)}, n), api.ErrBig)
	}
	// Their number is named first: it counts even if one of them, or each of them, is not valid.
	for _, bad := range invalid() {
		noEncode(t, slices.Repeat([]Object{bad}, 33), api.ErrBig)
		noEncode(t, append(make([]Object, 32), bad), api.ErrBig)
		noEncode(t, append([]Object{bad}, make([]Object, 32)...), api.ErrBig)
	}
}

func TestEncodeInvalid(t *testing.T) {
	for _, bad := range invalid() {
		for _, n := range []int{1, 2, 3, 31, 32} {
			for _, at := range []int{0, n / 2, n - 1} {
				l := make([]Object, n)
				l[at] = bad
				noEncode(t, l, api.ErrArg)
			}
		}
	}
}

func TestEncodeTooManyBytes(t *testing.T) {
	// Bodies of 4096 bytes are valid, but already one of them leaves no room for its head.
	noEncode(t, []Object{of(1, 1, 4096)}, api.ErrBig)
	noEncode(t, []Object{of(1, 1, 4096), {}}, api.ErrBig)
	noEncode(t, slices.Repeat([]Object{of(1, 1, 4096)}, 32), api.ErrBig)
	for n := 2; n <= 32; n++ {
		l := append(make([]Object, n-1), of(1, 1, 4096-4*n))
		if g := encode(t, l); len(g) != 4096 {
			t.Errorf("Encode has %d bytes", len(g))
		}
		l[0] = of(1, 1, 4)
		noEncode(t, l, api.ErrBig)
		l[0], l[n-1] = of(1, 1, 4096-4*n+4), Object{}
		noEncode(t, l, api.ErrBig)
	}
}

// What is not valid is named before the total, even behind objects that are too much already.
func TestEncodeInvalidAndTooManyBytes(t *testing.T) {
	for _, bad := range invalid() {
		noEncode(t, []Object{of(1, 1, 4096), bad}, api.ErrArg)
		noEncode(t, []Object{bad, of(1, 1, 4096)}, api.ErrArg)
		noEncode(t, append(slices.Repeat([]Object{of(1, 1, 4096)}, 31), bad), api.ErrArg)
	}
}

// P6.2

func TestDecode(t *testing.T) {
	for _, c := range []struct {
		b    []byte
		want []Object
	}{
		{nil, nil},
		{[]byte{}, nil},
		{[]byte{0, 4, 0, 0}, []Object{{}}},
		{[]byte{0, 4, 255, 254}, []Object{{Class: 255, Type: 254}}},
		{[]byte{0, 8, 1, 7, 'a', 'b', 'c', 'd', 0, 4, 8, 1}, []Object{{Class: 1, Type: 7, Body: []byte("abcd")}, {Class: 8, Type: 1}}},
		{[]byte{0, 4, 8, 1, 0, 8, 1, 7, 'a', 'b', 'c', 'd'}, []Object{{Class: 8, Type: 1}, {Class: 1, Type: 7, Body: []byte("abcd")}}},
		// What looks like objects inside of one is its body.
		{[]byte{0, 12, 1, 1, 0, 4, 2, 2, 0, 5, 3, 3}, []Object{{Class: 1, Type: 1, Body: []byte{0, 4, 2, 2, 0, 5, 3, 3}}}},
		{append([]byte{1, 0, 9, 8}, make([]byte, 252)...), []Object{{Class: 9, Type: 8, Body: make([]byte, 252)}}},
		{append([]byte{16, 0, 9, 8}, make([]byte, 4092)...), []Object{{Class: 9, Type: 8, Body: make([]byte, 4092)}}},
	} {
		decodes(t, c.b, c.want)
	}
}

func TestDecodeTooManyBytes(t *testing.T) {
	// Whatever they are: they are not looked at.
	for _, n := range []int{4097, 4098, 4100, 8192, 65536, 1 << 20} {
		noDecode(t, make([]byte, n), api.ErrBig)
		noDecode(t, append([]byte{0, 5, 1, 1}, make([]byte, n-4)...), api.ErrBig)
		noDecode(t, append([]byte{byte(n >> 8), byte(n), 1, 1}, make([]byte, n-4)...), api.ErrBig)
		noDecode(t, bytes.Repeat([]byte{255}, n), api.ErrBig)
	}
	noDecode(t, make([]byte, 4096), api.ErrForm)
	noDecode(t, bytes.Repeat([]byte{255}, 4096), api.ErrForm)
}

func TestDecodeTooManyObjects(t *testing.T) {
	full := bytes.Repeat([]byte{0, 4, 1, 1}, 32)
	decodes(t, full, slices.Repeat([]Object{{Class: 1, Type: 1}}, 32))
	// The number is named first: what comes behind 32 objects is not looked at.
	for _, behind := range [][]byte{{0}, {0, 4, 1}, {0, 4, 1, 1}, {0, 0, 1, 1}, {0, 5, 1, 1}, {0, 8, 1, 1}, {255, 252, 1, 1}, make([]byte, 100)} {
		noDecode(t, append(bytes.Clone(full), behind...), api.ErrBig)
	}
	noDecode(t, bytes.Repeat([]byte{0, 4, 1, 1}, 1024), api.ErrBig)
}

func TestDecodeShort(t *testing.T) {
	// Too few bytes for a head, of which the length could be wrong too.
	for _, b := range [][]byte{{0}, {255}, {0, 0}, {0, 5}, {0, 4}, {0, 4, 1}, {0, 5, 1}, {255, 255, 255}} {
		noDecode(t, b, api.ErrShort)
		noDecode(t, append([]byte{0, 4, 1, 1}, b...), api.ErrShort)
		noDecode(t, append(expected([]Object{of(1, 1, 400)}), b...), api.ErrShort)
	}
	// Too few bytes for a body.
	for _, n := range []int{8, 12, 252, 256, 4092, 4096, 4100, 65532} {
		for _, have := range []int{4, 5, 6, 7, n - 5, n - 4, n - 3, n - 2, n - 1} {
			if have < 4 || have > 4092 || have >= n {
				continue
			}
			b := append([]byte{byte(n >> 8), byte(n), 1, 1}, make([]byte, have-4)...)
			noDecode(t, b, api.ErrShort)
			noDecode(t, append([]byte{0, 4, 1, 1}, b...), api.ErrShort)
		}
	}
}

func TestDecodeOfNoLength(t *testing.T) {
	for n := range 65536 {
		if n >= 4 && n%4 == 0 {
			continue
		}
		head := []byte{byte(n >> 8), byte(n), 1, 1}
		// The form is named before the bytes that are missing.
		noDecode(t, head, api.ErrForm)
		if n < 20 || n > 4088 && n < 4104 || n > 65528 {
			noDecode(t, append(head, make([]byte, 4092)...), api.ErrForm)
			noDecode(t, append([]byte{0, 8, 1, 1, 1, 1, 1, 1}, head...), api.ErrForm)
		}
	}
}

// Of several faults, the one of the first object counts.
func TestDecodeFirstFault(t *testing.T) {
	good := expected([]Object{of(1, 1, 8), {}})
	for _, c := range []struct {
		behind []byte
		want   api.Errno
	}{
		{[]byte{0, 6, 1, 1, 0, 255, 1}, api.ErrForm},
		{[]byte{0, 0, 1, 1, 255}, api.ErrForm},
		{[]byte{0, 16, 1, 1, 0, 5, 1, 1}, api.ErrShort},
		{[]byte{0, 8, 1, 1, 0, 5, 1}, api.ErrShort},
		{[]byte{0, 8, 1, 1, 0, 5, 1, 1, 0, 7, 1, 1}, api.ErrForm},
		{[]byte{0, 8, 1, 1, 0, 5, 1, 1, 0, 7, 1}, api.ErrShort},
	} {
		noDecode(t, c.behind, c.want)
		noDecode(t, append(bytes.Clone(good), c.behind...), c.want)
	}
	// A fault of the 32nd object counts before those that are too many.
	faulty := append(bytes.Repeat([]byte{0, 4, 1, 1}, 31), 0, 5, 1, 1)
	noDecode(t, append(faulty, bytes.Repeat([]byte{0, 4, 1, 1}, 40)...), api.ErrForm)
	missing := append(bytes.Repeat([]byte{0, 4, 1, 1}, 31), 2, 0, 1, 1)
	noDecode(t, append(missing, bytes.Repeat([]byte{0, 4, 1, 1}, 40)...), api.ErrShort)
}

// Bytes that lie behind the argument, in the same memory, are none of it.
func TestDecodeNotBeyond(t *testing.T) {
	whole := []byte{0, 4, 1, 1, 0, 12, 2, 2, 1, 2, 3, 4, 5, 6, 7, 8}
	decodes(t, whole[:0], nil)
	decodes(t, whole[:4], []Object{{Class: 1, Type: 1}})
	for n := 1; n < len(whole); n++ {
		if n != 4 {
			noDecode(t, whole[:n], api.ErrShort)
		}
	}
}

// P6.3

func TestInverse(t *testing.T) {
	for _, l := range lists() {
		decodes(t, encode(t, l), l)
		decodes(t, expected(l), l)
	}
}

func TestInverseOfEachNumber(t *testing.T) {
	for x := range 256 {
		l := []Object{{Class: x, Type: 255 - x, Body: bytes.Repeat([]byte{byte(x)}, 4*x)}}
		decodes(t, encode(t, l), l)
	}
	for n := 0; n <= 4092; n += 4 {
		l := []Object{of(1, 2, n)}
		decodes(t, encode(t, l), l)
	}
}

// P6.4

// oneForm asks that b, if Decode accepts it, is the encoding of what it returns, and says whether it did.
func oneForm(t *testing.T, b []byte) bool {
	t.Helper()
	l, e := Decode(b)
	if e != api.OK {
		return false
	}
	if g, e := Encode(l); e != api.OK || !bytes.Equal(g, b) {
		t.Fatalf("Decode(%x) is the encoding of %x, %d", b, g, e)
	}
	if n, e := Size(l); e != api.OK || n != len(b) {
		t.Fatalf("Size of Decode(%x) = %d, %d", b, n, e)
	}
	return true
}

func TestOneForm(t *testing.T) {
	next := mix(2)
	taken, refused := 0, 0
	for range 30000 {
		// Small lengths, so that objects and their faults both come about.
		b := some(next, next(40))
		if next(2) == 0 {
			b = b[:len(b)/4*4]
		}
		for at := 0; at+1 < len(b); at += 4 {
			b[at] = 0
			b[at+1] = byte(4 * next(6))
			if next(20) == 0 {
				b[at+1] = byte(next(256))
			}
		}
		if oneForm(t, b) {
			taken++
		} else {
			refused++
		}
	}
	if taken < 1000 || refused < 1000 {
		t.Errorf("%d accepted, %d refused", taken, refused)
	}
}

// One byte of an encoding is changed: what is accepted still has one form.
func TestOneFormOfChanged(t *testing.T) {
	next := mix(3)
	for _, l := range lists() {
		b := encode(t, l)
		for range 30 {
			if len(b) > 0 {
				g := bytes.Clone(b)
				g[next(len(g))] = byte(next(256))
				oneForm(t, g)
			}
		}
		for range 5 {
			oneForm(t, b[:next(len(b)+1)])
			oneForm(t, append(bytes.Clone(b), some(next, next(9))...))
		}
	}
}

// P6.5

func TestConcatenation(t *testing.T) {
	next := mix(4)
	all := lists()
	within, beyond := 0, 0
	for range 3000 {
		l, m := all[next(len(all))], all[next(len(all))]
		both := slices.Concat(l, m)
		b := slices.Concat(encode(t, l), encode(t, m))
		if len(both) > 32 || len(b) > 4096 {
			noEncode(t, both, api.ErrBig)
			noDecode(t, b, api.ErrBig)
			beyond++
			continue
		}
		if g := encode(t, both); !bytes.Equal(g, b) {
			t.Fatalf("Encode(%v) = %x, not %x", both, g, b)
		}
		decodes(t, b, both)
		within++
	}
	if within < 100 || beyond < 100 {
		t.Errorf("%d within the limits, %d beyond them", within, beyond)
	}
}

func TestConcatenationOfParts(t *testing.T) {
	for _, l := range lists() {
		whole := encode(t, l)
		for at := range len(l) + 1 {
			if g := slices.Concat(encode(t, l[:at]), encode(t, l[at:])); !bytes.Equal(g, whole) {
				t.Fatalf("the parts of %v at %d = %x, not %x", l, at, g, whole)
			}
		}
	}
}

// R6

func TestArgumentsStay(t *testing.T) {
	for _, l := range lists() {
		before := clone(l)
		Size(l)
		b := encode(t, l)
		if !same(l, before) {
			t.Fatalf("the objects became %v", l)
		}
		room := append(bytes.Clone(b), 1, 2, 3, 4)
		kept := bytes.Clone(room)
		Decode(room[:len(b)])
		Decode(room[:len(b)/2])
		if !bytes.Equal(room, kept) {
			t.Fatalf("the bytes became %x", room)
		}
	}
}

func TestBodiesWithRoomStay(t *testing.T) {
	room := []byte{1, 2, 3, 4, 5, 6, 7, 8}
	l := []Object{{Class: 1, Type: 1, Body: room[:4]}, {Class: 2, Type: 2, Body: room[:0]}}
	encode(t, l)
	Size(l)
	if !bytes.Equal(room, []byte{1, 2, 3, 4, 5, 6, 7, 8}) {
		t.Errorf("the memory behind the bodies became %x", room)
	}
}

func TestResultsAreNew(t *testing.T) {
	for _, l := range lists() {
		l = clone(l)
		before := clone(l)
		b := encode(t, l)
		clear(b[:cap(b)])
		if !same(l, before) {
			t.Fatal("a change of the encoding changed the objects")
		}
		b = encode(t, l)
		kept := bytes.Clone(b)
		for _, o := range l {
			clear(o.Body)
		}
		clear(l)
		if !bytes.Equal(b, kept) {
			t.Fatal("a change of the objects changed the encoding")
		}
		m, _ := Decode(b)
		clear(b)
		if !same(m, before) {
			t.Fatal("a change of the bytes changed the objects")
		}
		copy(b, kept)
		for _, o := range m {
			clear(o.Body[:cap(o.Body)])
		}
		if !bytes.Equal(b, kept) {
			t.Fatal("a change of the objects changed the bytes")
		}
	}
}

// The bodies of one result are apart: neither a change of one nor an append to it shows in the others.
func TestBodiesAreApart(t *testing.T) {
	l := []Object{of(1, 1, 4), of(2, 2, 8), of(3, 3, 4)}
	b := encode(t, l)
	for i := range l {
		m, _ := Decode(b)
		clear(m[i].Body[:cap(m[i].Body)])
		m[i].Body = append(m[i].Body, 9, 9, 9, 9, 9, 9, 9, 9)
		m[i].Body = l[i].Body
		if !same(m, l) {
			t.Errorf("a change of the body %d made %v", i, m)
		}
	}
}

// The chapter's examples.

func TestExamples(t *testing.T) {
	l := []Object{{Class: 1, Type: 7, Body: []byte("abcd")}, {Class: 8, Type: 1}}
	b := []byte{0x00, 0x08, 0x01, 0x07, 0x61, 0x62, 0x63, 0x64, 0x00, 0x04, 0x08, 0x01}
	if g := encode(t, l); !bytes.Equal(g, b) {
		t.Errorf("Encode = %x", g)
	}
	if n, e := Size(l); n != 12 || e != api.OK {
		t.Errorf("Size = %d, %d", n, e)
	}
	decodes(t, b, l)
	noDecode(t, []byte{0, 5, 1, 1, 0}, api.ErrForm)
	noDecode(t, []byte{0, 8, 1, 1}, api.ErrShort)
	decodes(t, nil, nil)
}
