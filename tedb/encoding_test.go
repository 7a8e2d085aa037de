package tedb

import (
	"bytes"
	"encoding/binary"
	"math"
	"slices"
	"testing"

	"viaduct/api"
)

// bytesOf is the encoding of an advert by another way; it asks for nothing to be valid.
func bytesOf(a Advert) []byte {
	b := []byte{byte(a.Link.From), byte(a.Link.To), 0, 0}
	if a.Up {
		b[2] = 1
	}
	b = binary.BigEndian.AppendUint32(b, uint32(a.Seq))
	b = binary.BigEndian.AppendUint64(b, a.Link.Cap)
	b = binary.BigEndian.AppendUint32(b, uint32(a.Link.Metric))
	b = binary.BigEndian.AppendUint32(b, a.Link.Groups)
	for _, u := range a.Free {
		b = binary.BigEndian.AppendUint64(b, u)
	}
	return b
}

// joined are the encodings of adverts.
func joined(l []Advert) []byte {
	var b []byte
	for _, a := range l {
		b = append(b, bytesOf(a)...)
	}
	return b
}

// inverse asks for the encoding of valid adverts, and for them again.
func inverse(t *testing.T, l []Advert) {
	t.Helper()
	b, e := Encode(l)
	if want := joined(l); e != api.OK || !bytes.Equal(b, want) {
		t.Fatalf("Encode(%v) = %x, %d, not %x", l, b, e, want)
	}
	if again, e := Decode(b); e != api.OK || !slices.Equal(again, l) {
		t.Fatalf("Decode of Encode(%v) = %v, %d", l, again, e)
	}
}

// unencoded asks for an error of Encode, and for no bytes.
func unencoded(t *testing.T, l []Advert, want api.Errno) {
	t.Helper()
	if b, e := Encode(l); len(b) > 0 || e != want {
		t.Errorf("Encode of %d adverts = %x, %d, not the error %d", len(l), b, e, want)
	}
}

// formless asks for ErrForm of Decode, and for no adverts.
func formless(t *testing.T, b []byte) {
	t.Helper()
	if l, e := Decode(b); len(l) > 0 || e != api.ErrForm {
		t.Errorf("Decode(%x) = %v, %d", b, l, e)
	}
}

// valids are n adverts that differ.
func valids(n int) []Advert {
	var l []Advert
	for i := range n {
		l = append(l, some(i%16, (i+1)%16, i))
	}
	return l
}

// P15.5

func TestEncodeBytes(t *testing.T) {
	a := Advert{api.Link{From: 2, To: 15, Cap: 0x0102030405060708, Metric: 0x0a0b, Groups: 0xc1c2c3c4}, 0xd1d2d3d4, true, [8]uint64{0x0102030405060707, 0x0100000000000002, 0xf3, 0xe4, 0xd5, 0x16, 7, 0}}
	want := []byte{
		2, 15, 1, 0, 0xd1, 0xd2, 0xd3, 0xd4, 1, 2, 3, 4, 5, 6, 7, 8, 0, 0, 0x0a, 0x0b, 0xc1, 0xc2, 0xc3, 0xc4,
		1, 2, 3, 4, 5, 6, 7, 7, 1, 0, 0, 0, 0, 0, 0, 2, 0, 0, 0, 0, 0, 0, 0, 0xf3, 0, 0, 0, 0, 0, 0, 0, 0xe4,
		0, 0, 0, 0, 0, 0, 0, 0xd5, 0, 0, 0, 0, 0, 0, 0, 0x16, 0, 0, 0, 0, 0, 0, 0, 7, 0, 0, 0, 0, 0, 0, 0, 0,
	}
	down := a
	down.Up = false
	twice := slices.Concat(want, want)
	twice[88+2] = 0
	for _, x := range []struct {
		l []Advert
		b []byte
	}{{nil, nil}, {[]Advert{}, []byte{}}, {[]Advert{a}, want}, {[]Advert{a, down}, twice}} {
		if b, e := Encode(x.l); e != api.OK || !bytes.Equal(b, x.b) {
			t.Errorf("Encode(%v) = %x, %d", x.l, b, e)
		}
		if l, e := Decode(x.b); e != api.OK || !slices.Equal(l, x.l) {
			t.Errorf("Decode(%x) = %v, %d", x.b, l, e)
		}
	}
}

func TestEncodeTooMany(t *testing.T) {
	inverse(t, valids(63))
	inverse(t, valids(64))
	for _, n := range []int{65, 66, 128, 1000} {
		unencoded(t, valids(n), api.ErrBig)
		// More than the limit counts before one that is not valid.
		unencoded(t, make([]Advert, n), api.ErrBig)
		unencoded(t, append(valids(n-1), Advert{}), api.ErrBig)
	}
}

func TestEncodeInvalid(t *testing.T) {
	for _, a := range bads() {
		unencoded(t, []Advert{a}, api.ErrArg)
		unencoded(t, []Advert{a, some(0, 1, 1)}, api.ErrArg)
		unencoded(t, []Advert{some(0, 1, 1), a}, api.ErrArg)
	}
	for i := range 64 {
		l := valids(64)
		l[i].Link.Metric = 0
		unencoded(t, l, api.ErrArg)
	}
	unencoded(t, make([]Advert, 64), api.ErrArg)
}

func TestDecodeLengths(t *testing.T) {
	whole := joined(valids(66))
	for n := range len(whole) {
		if n%88 != 0 || n > 64*88 {
			formless(t, whole[:n])
			continue
		}
		if l, e := Decode(whole[:n]); e != api.OK || !slices.Equal(l, valids(n/88)) {
			t.Errorf("Decode of %d bytes = %v, %d", n, l, e)
		}
	}
	formless(t, whole)
	formless(t, make([]byte, 88))
	formless(t, make([]byte, 88*64))
	formless(t, make([]byte, 88*65))
	formless(t, make([]byte, 1<<20))
}

// Other bytes than 1 or 0 for Up, or than the 0 behind it, are the encoding of nothing.
func TestDecodeFlags(t *testing.T) {
	for i := range 3 {
		for x := 1; x < 256; x++ {
			b := joined(valids(3))
			if b[88*i+2] = byte(x); x > 1 {
				formless(t, b)
			}
			b[88*i+2], b[88*i+3] = byte(x&1), byte(x)
			formless(t, b)
		}
	}
}

// The bytes that an advert that is not valid would have, if it fits into them.
func TestDecodeInvalid(t *testing.T) {
	fits := 0
	for _, a := range bads() {
		x := a.Link
		if x.From < 0 || x.From > 255 || x.To < 0 || x.To > 255 || x.Metric < 0 || x.Metric > math.MaxUint32 || a.Seq < 0 || a.Seq > math.MaxUint32 {
			continue
		}
		fits++
		formless(t, bytesOf(a))
		formless(t, joined([]Advert{a, some(0, 1, 1)}))
		formless(t, joined([]Advert{some(0, 1, 1), a}))
	}
	if fits < 50 {
		t.Errorf("only %d adverts fit", fits)
	}
	for _, metric := range []int{1 << 16, 1 << 24, 1 << 31, 1<<31 + 7, 1<<16 + 7, math.MaxUint32} {
		formless(t, bytesOf(changed(func(a *Advert) { a.Link.Metric = metric })))
	}
	for node := 16; node < 256; node++ {
		formless(t, bytesOf(some(node, 3, 1)))
		formless(t, bytesOf(some(3, node, 1)))
	}
	for i := range 64 {
		l := valids(64)
		l[i].Link.Metric = 0
		formless(t, joined(l))
	}
}

// A single byte that is changed leads to no adverts, or to those whose encoding the bytes are.
func TestDecodeChanged(t *testing.T) {
	right := joined([]Advert{some(0, 1, 5), some(3, 2, lastSeq)})
	ok := 0
	for i := range right {
		for x := range 256 {
			b := bytes.Clone(right)
			b[i] = byte(x)
			l, e := Decode(b)
			if e != api.OK {
				formless(t, b)
				continue
			}
			ok++
			for _, a := range l {
				if !valid(a) {
					t.Errorf("Decode(%x) = %v, which is not valid", b, l)
				}
			}
			if !bytes.Equal(joined(l), b) {
				t.Errorf("Decode(%x) = %v, which has other bytes", b, l)
			}
		}
	}
	if ok < len(right) {
		t.Errorf("only %d decodings", ok)
	}
}

// R6

func TestEncodingIsNew(t *testing.T) {
	l := valids(3)
	one, _ := Encode(l[:2])
	two, _ := Encode(l[:2])
	clear(one)
	_ = append(one[:4], 9)
	if !bytes.Equal(two, joined(valids(2))) || !slices.Equal(l, valids(3)) {
		t.Errorf("a result of Encode shares memory: %x, %v", two, l)
	}
	x, _ := Decode(two)
	y, _ := Decode(two)
	clear(x)
	_ = append(x[:1], some(4, 5, 6))
	clear(two)
	if !slices.Equal(y, valids(2)) {
		t.Errorf("a result of Decode shares memory: %v", y)
	}
	whole := joined(valids(3))
	if _, e := Decode(whole[:176]); e != api.OK || !bytes.Equal(whole, joined(valids(3))) {
		t.Errorf("Decode wrote into its argument: %x, %d", whole, e)
	}
}

// P15.8

func TestInverse(t *testing.T) {
	inverse(t, nil)
	for _, a := range goods() {
		inverse(t, []Advert{a})
		inverse(t, []Advert{a, a})
	}
	inverse(t, goods())
	inverse(t, firsts(great()))
	inverse(t, base(t, 3, triangle()).All())
}

func TestInverseOfRandom(t *testing.T) {
	n := mix(5)
	ends := [][2]int{{0, 1}, {1, 0}, {15, 3}, {7, 8}, {0, 15}}
	for range 500 {
		var l []Advert
		for range n(65) {
			if a := random(n, ends); valid(a) {
				a.Seq = n(1 << 32)
				l = append(l, a)
			}
		}
		inverse(t, l)
	}
}
