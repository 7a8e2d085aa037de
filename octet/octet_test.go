package octet

import (
	"bytes"
	"math"
	"testing"

	"viaduct/api"
)

// most is the greatest number of n bytes.
func most(n int) uint64 {
	return math.MaxUint64 >> (64 - 8*n)
}

// widths that no number has.
var noWidths = []int{math.MinInt, -8, -1, 0, 9, 16, 64, math.MaxInt}

// unmade: the readers that New did not create.
func unmade() []*Reader {
	return []*Reader{nil, {}}
}

// check asks what the reader tells of itself.
func check(t *testing.T, r *Reader, left int, err api.Errno) {
	t.Helper()
	if r.Left() != left {
		t.Errorf("Left = %d, not %d", r.Left(), left)
	}
	if r.Err() != err {
		t.Errorf("Err = %d, not %d", r.Err(), err)
	}
}

// P1.1

func TestNewReader(t *testing.T) {
	for n := range 10 {
		check(t, New(make([]byte, n)), n, api.OK)
	}
	check(t, New(nil), 0, api.OK)
}

func TestNewCopies(t *testing.T) {
	b := []byte{1, 2, 3, 4}
	r := New(b)
	clear(b)
	if u := r.Uint(2); u != 0x0102 {
		t.Errorf("Uint after a change of the argument: %x", u)
	}
	if g := r.Bytes(2); !bytes.Equal(g, []byte{3, 4}) {
		t.Errorf("Bytes after a change of the argument: %x", g)
	}
}

func TestReadersAreApart(t *testing.T) {
	b := []byte{1, 2, 3, 4}
	one, two := New(b), New(b)
	one.Uint(2)
	one.Uint(0)
	check(t, one, 2, api.ErrArg)
	check(t, two, 4, api.OK)
	if !bytes.Equal(b, []byte{1, 2, 3, 4}) {
		t.Errorf("the argument became %x", b)
	}
}

func TestUnmadeReader(t *testing.T) {
	for _, r := range unmade() {
		check(t, r, 0, api.ErrNil)
		for _, n := range []int{-1, 0, 1, 8, 9} {
			if u := r.Uint(n); u != 0 {
				t.Errorf("Uint(%d) = %d", n, u)
			}
			if g := r.Bytes(n); len(g) != 0 {
				t.Errorf("Bytes(%d) = %x", n, g)
			}
			check(t, r, 0, api.ErrNil)
		}
	}
}

// P1.2

func TestUint(t *testing.T) {
	b := []byte{0x81, 0x02, 0x03, 0x04, 0x05, 0x06, 0x07, 0xf8, 0x99}
	wants := []uint64{0x81, 0x8102, 0x810203, 0x81020304, 0x8102030405, 0x810203040506, 0x81020304050607, 0x81020304050607f8}
	for i, want := range wants {
		n := i + 1
		r := New(b)
		if u := r.Uint(n); u != want {
			t.Errorf("Uint(%d) = %x, not %x", n, u, want)
		}
		check(t, r, len(b)-n, api.OK)
		r = New(b[:n])
		if u := r.Uint(n); u != want {
			t.Errorf("Uint(%d) of no more bytes = %x, not %x", n, u, want)
		}
		check(t, r, 0, api.OK)
	}
}

func TestUintMoves(t *testing.T) {
	r := New([]byte{1, 2, 3, 4, 5, 6})
	for i, want := range []uint64{0x01, 0x0203, 0x040506} {
		if u := r.Uint(i + 1); u != want {
			t.Errorf("Uint(%d) = %x, not %x", i+1, u, want)
		}
	}
	check(t, r, 0, api.OK)
}

func TestUintOfNoWidth(t *testing.T) {
	for _, n := range noWidths {
		for _, have := range []int{0, 1, 20} {
			r := New(bytes.Repeat([]byte{7}, have))
			if u := r.Uint(n); u != 0 {
				t.Errorf("Uint(%d) = %d", n, u)
			}
			check(t, r, have, api.ErrArg)
		}
	}
}

func TestUintShort(t *testing.T) {
	for n := 1; n <= 8; n++ {
		for have := range n {
			r := New(bytes.Repeat([]byte{7}, have))
			if u := r.Uint(n); u != 0 {
				t.Errorf("Uint(%d) of %d bytes = %d", n, have, u)
			}
			check(t, r, have, api.ErrShort)
		}
	}
}

func TestBytes(t *testing.T) {
	b := []byte{1, 2, 3, 4, 5, 6, 7, 8, 9, 10, 11, 12}
	for n := range len(b) + 1 {
		r := New(b)
		if g := r.Bytes(n); !bytes.Equal(g, b[:n]) {
			t.Errorf("Bytes(%d) = %x", n, g)
		}
		check(t, r, len(b)-n, api.OK)
		if g := r.Bytes(len(b) - n); !bytes.Equal(g, b[n:]) {
			t.Errorf("Bytes behind %d = %x", n, g)
		}
		check(t, r, 0, api.OK)
		if g := r.Bytes(0); len(g) != 0 {
			t.Errorf("Bytes(0) at the end = %x", g)
		}
		check(t, r, 0, api.OK)
	}
}

func TestBytesAreNew(t *testing.T) {
	b := []byte{1, 2, 3, 4}
	r := New(b)
	g := r.Bytes(2)
	clear(g[:cap(g)])
	if u := r.Uint(2); u != 0x0304 {
		t.Errorf("Uint after a change of what Bytes returned: %x", u)
	}
	g = append(g, 9, 9)
	if !bytes.Equal(b, []byte{1, 2, 3, 4}) {
		t.Errorf("the argument became %x", b)
	}
}

func TestBytesNegative(t *testing.T) {
	for _, n := range []int{-1, -2, math.MinInt} {
		for _, have := range []int{0, 3} {
			r := New(make([]byte, have))
			if g := r.Bytes(n); len(g) != 0 {
				t.Errorf("Bytes(%d) = %x", n, g)
			}
			check(t, r, have, api.ErrArg)
		}
	}
}

func TestBytesShort(t *testing.T) {
	for have := range 5 {
		for _, n := range []int{have + 1, have + 100, math.MaxInt - 1, math.MaxInt} {
			r := New(bytes.Repeat([]byte{7}, have+2))
			r.Uint(2)
			if g := r.Bytes(n); len(g) != 0 {
				t.Errorf("Bytes(%d) of %d bytes = %x", n, have, g)
			}
			check(t, r, have, api.ErrShort)
		}
	}
}

// P1.3

func TestPut(t *testing.T) {
	all := uint64(0x0102030405060708)
	for n := 1; n <= 8; n++ {
		u := all >> (64 - 8*n)
		want := []byte{1, 2, 3, 4, 5, 6, 7, 8}[:n]
		for _, front := range [][]byte{nil, {}, {9}, {9, 8, 7, 6, 5}} {
			g, e := Put(front, n, u)
			if e != api.OK || !bytes.Equal(g, append(bytes.Clone(front), want...)) {
				t.Errorf("Put(%x, %d, %x) = %x, %d", front, n, u, g, e)
			}
		}
	}
}

func TestPutBounds(t *testing.T) {
	for n := 1; n <= 8; n++ {
		if g, e := Put(nil, n, 0); e != api.OK || !bytes.Equal(g, make([]byte, n)) {
			t.Errorf("Put(%d, 0) = %x, %d", n, g, e)
		}
		if g, e := Put(nil, n, most(n)); e != api.OK || !bytes.Equal(g, bytes.Repeat([]byte{255}, n)) {
			t.Errorf("Put(%d, the most) = %x, %d", n, g, e)
		}
		if n == 8 {
			continue
		}
		for _, u := range []uint64{most(n) + 1, most(n) + 2, math.MaxUint64, 1 << 63} {
			if g, e := Put([]byte{1}, n, u); e != api.ErrBig || len(g) != 0 {
				t.Errorf("Put(%d, %x) = %x, %d", n, u, g, e)
			}
		}
	}
}

func TestPutOfNoWidth(t *testing.T) {
	for _, n := range noWidths {
		for _, u := range []uint64{0, 1, math.MaxUint64} {
			if g, e := Put([]byte{1, 2}, n, u); e != api.ErrArg || len(g) != 0 {
				t.Errorf("Put(%d, %x) = %x, %d", n, u, g, e)
			}
		}
	}
}

func TestPutIsNew(t *testing.T) {
	whole := []byte{1, 2, 3, 4, 5, 6}
	one, _ := Put(whole[:2], 2, 0xa0a1)
	two, _ := Put(whole[:2], 2, 0xb0b1)
	if !bytes.Equal(whole, []byte{1, 2, 3, 4, 5, 6}) {
		t.Errorf("Put wrote into the argument: %x", whole)
	}
	if !bytes.Equal(one, []byte{1, 2, 0xa0, 0xa1}) || !bytes.Equal(two, []byte{1, 2, 0xb0, 0xb1}) {
		t.Errorf("two of one argument: %x and %x", one, two)
	}
	one[0] = 9
	if whole[0] != 1 || two[0] != 1 {
		t.Errorf("a result shares memory: %x, %x", whole, two)
	}
}

// P1.4

func TestPad(t *testing.T) {
	wants := []int{0, 4, 4, 4, 4, 8, 8, 8, 8, 12}
	for n, want := range wants {
		b := bytes.Repeat([]byte{7}, n)
		g := Pad(b)
		if len(g) != want || !bytes.Equal(g[:n], b) || !bytes.Equal(g[n:], make([]byte, want-n)) {
			t.Errorf("Pad of %d bytes = %x", n, g)
		}
	}
	if g := Pad(nil); len(g) != 0 {
		t.Errorf("Pad(nil) = %x", g)
	}
}

func TestPadIsNew(t *testing.T) {
	whole := []byte{1, 2, 3, 4, 5, 6}
	for n := range len(whole) {
		g := Pad(whole[:n])
		clear(g)
		g = append(g, 9)
		if !bytes.Equal(whole, []byte{1, 2, 3, 4, 5, 6}) {
			t.Fatalf("Pad of %d bytes shares memory: %x", n, whole)
		}
	}
}

// P1.5

// mix answers numbers without an order to be seen, the same in every run.
func mix(seed uint64) func() uint64 {
	return func() uint64 {
		seed = seed*6364136223846793005 + 1442695040888963407
		return seed ^ seed>>29
	}
}

func TestInverse(t *testing.T) {
	next := mix(1)
	for range 200 {
		var b []byte
		var widths []int
		var numbers []uint64
		for range next() % 20 {
			n := int(next()%8) + 1
			u := next() & most(n)
			var e api.Errno
			if b, e = Put(b, n, u); e != api.OK {
				t.Fatalf("Put(%d, %x): %d", n, u, e)
			}
			widths, numbers = append(widths, n), append(numbers, u)
		}
		r := New(b)
		left := len(b)
		for i, n := range widths {
			if u := r.Uint(n); u != numbers[i] {
				t.Fatalf("Uint(%d) = %x, not %x", n, u, numbers[i])
			}
			left -= n
			check(t, r, left, api.OK)
		}
		check(t, r, 0, api.OK)
	}
}

func TestInverseOfBounds(t *testing.T) {
	for n := 1; n <= 8; n++ {
		for _, u := range []uint64{0, 1, most(n) / 2, most(n)/2 + 1, most(n) - 1, most(n)} {
			b, e := Put(nil, n, u)
			if g := New(b).Uint(n); e != api.OK || g != u {
				t.Errorf("%x in %d bytes is read as %x, %d", u, n, g, e)
			}
		}
	}
}

func TestInverseOfBytes(t *testing.T) {
	next := mix(2)
	for n := 1; n <= 8; n++ {
		for range 50 {
			full, _ := Put(nil, 8, next())
			b := full[:n]
			g, e := Put(nil, n, New(b).Uint(n))
			if e != api.OK || !bytes.Equal(g, b) {
				t.Errorf("%x is encoded again as %x, %d", b, g, e)
			}
		}
	}
}

// P1.6

func TestErrorsPersist(t *testing.T) {
	spoil := []struct {
		name string
		call func(r *Reader)
		err  api.Errno
	}{
		{"Uint of no width", func(r *Reader) { r.Uint(0) }, api.ErrArg},
		{"Uint beyond the end", func(r *Reader) { r.Uint(8) }, api.ErrShort},
		{"Bytes of less than none", func(r *Reader) { r.Bytes(-1) }, api.ErrArg},
		{"Bytes beyond the end", func(r *Reader) { r.Bytes(5) }, api.ErrShort},
	}
	for _, s := range spoil {
		r := New([]byte{1, 2, 3, 4, 5, 6})
		r.Uint(2)
		s.call(r)
		for _, n := range []int{1, 2, 4, 0, -1, 5, 8, 9, math.MaxInt, math.MinInt} {
			if u := r.Uint(n); u != 0 {
				t.Errorf("%s: Uint(%d) = %d", s.name, n, u)
			}
			if g := r.Bytes(n); len(g) != 0 {
				t.Errorf("%s: Bytes(%d) = %x", s.name, n, g)
			}
			check(t, r, 4, s.err)
		}
	}
}

// The chapter's examples.

func TestExamples(t *testing.T) {
	if g, e := Put(nil, 2, 258); e != api.OK || !bytes.Equal(g, []byte{1, 2}) {
		t.Errorf("Put(2, 258) = %x, %d", g, e)
	}
	if _, e := Put(nil, 1, 256); e != api.ErrBig {
		t.Errorf("Put(1, 256): %d", e)
	}
	if _, e := Put(nil, 9, 0); e != api.ErrArg {
		t.Errorf("Put(9, 0): %d", e)
	}
	r := New([]byte{1, 2, 3})
	if u := r.Uint(2); u != 258 {
		t.Errorf("Uint(2) = %d", u)
	}
	check(t, r, 1, api.OK)
	if u := r.Uint(2); u != 0 {
		t.Errorf("Uint(2) beyond the end = %d", u)
	}
	check(t, r, 1, api.ErrShort)
	if u := r.Uint(1); u != 0 {
		t.Errorf("Uint(1) after an error = %d", u)
	}
	check(t, r, 1, api.ErrShort)
	if g := Pad([]byte{1}); !bytes.Equal(g, []byte{1, 0, 0, 0}) {
		t.Errorf("Pad(01) = %x", g)
	}
}
