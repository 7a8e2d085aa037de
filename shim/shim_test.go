package shim

import (
	"bytes"
	"math"
	"slices"
	"testing"

	"viaduct/api"
)

type stack = []api.Entry

// mix answers numbers without an order to be seen, the same in every run.
func mix(seed uint64) func(n int) int {
	return func(n int) int {
		seed = seed*6364136223846793005 + 1442695040888963407
		return int(((seed ^ seed>>29) >> 8) % uint64(n))
	}
}

// some answers n bytes of next.
func some(next func(int) int, n int) []byte {
	b := make([]byte, n)
	for i := range b {
		b[i] = byte(next(256))
	}
	return b
}

// valid: entries at the edges of what they may be, and between them.
func valid() stack {
	next := mix(1)
	var all stack
	for _, label := range []int{0, 1, 3, 15, 16, 4095, 4096, 1<<19 - 1, 1 << 19, 1<<20 - 2, 1<<20 - 1, next(1 << 20)} {
		for class := range 8 {
			for _, ttl := range []int{0, 1, 64, 127, 128, 254, 255} {
				all = append(all, api.Entry{Label: label, Class: class, Ttl: ttl})
			}
		}
	}
	return all
}

// invalid: entries of which one part, or more, may not be.
func invalid() stack {
	all := stack{
		{Label: -1, Class: 8, Ttl: 256},
		{Label: 1 << 20, Class: -1, Ttl: -1},
		{Label: -4096, Class: 8},
		{Class: -1, Ttl: 512},
	}
	for _, base := range []api.Entry{{}, {Label: 16, Class: 5, Ttl: 64}, {Label: 1<<20 - 1, Class: 7, Ttl: 255}} {
		for _, x := range []int{-1, -4096, math.MinInt, math.MinInt + 1, 1 << 20, 1<<20 + 1, 1 << 30, math.MaxInt} {
			e := base
			e.Label = x
			all = append(all, e)
		}
		for _, x := range []int{-1, -8, math.MinInt, 8, 9, 15, 16, 256, 1 << 20, math.MaxInt} {
			e := base
			e.Class = x
			all = append(all, e)
		}
		for _, x := range []int{-1, -255, -256, math.MinInt, 256, 257, 511, 512, 1 << 20, math.MaxInt} {
			e := base
			e.Ttl = x
			all = append(all, e)
		}
	}
	return all
}

// stacks: of every size that a stack may have, of all zeros, of all ones, and mixed ones.
func stacks() []stack {
	next := mix(2)
	entries := valid()
	all := []stack{nil, {}}
	for n := 1; n <= 8; n++ {
		all = append(all, make(stack, n), slices.Repeat(stack{{Label: 1<<20 - 1, Class: 7, Ttl: 255}}, n))
		for range 30 {
			l := make(stack, n)
			for i := range l {
				l[i] = entries[next(len(entries))]
				if next(2) == 0 {
					l[i] = api.Entry{Label: next(1 << 20), Class: next(8), Ttl: next(256)}
				}
			}
			all = append(all, l)
		}
	}
	return all
}

// expected is the encoding by another way: byte by byte.
func expected(l stack) []byte {
	var b []byte
	for i, e := range l {
		third := e.Label%16*16 + e.Class*2
		if i+1 == len(l) {
			third++
		}
		b = append(b, byte(e.Label/4096), byte(e.Label/16%256), byte(third), byte(e.Ttl))
	}
	return b
}

// encode is Encode where it must not fail.
func encode(t *testing.T, l stack) []byte {
	t.Helper()
	b, e := Encode(l)
	if e != api.OK {
		t.Fatalf("Encode(%v): %d", l, e)
	}
	return b
}

// noDecode asks for an error, without anything beside it.
func noDecode(t *testing.T, b []byte, want api.Errno) {
	t.Helper()
	if l, rest, e := Decode(b); e != want || len(l) != 0 || len(rest) != 0 {
		t.Errorf("Decode(%x) = %v, %x, %d, not the error %d", b, l, rest, e, want)
	}
}

// P3.1

func TestMay(t *testing.T) {
	for _, e := range valid() {
		if !May(e) {
			t.Errorf("May(%v) is false", e)
		}
	}
}

func TestMayNot(t *testing.T) {
	for _, e := range invalid() {
		if May(e) {
			t.Errorf("May(%v) is true", e)
		}
	}
}

// P3.2

func TestEncode(t *testing.T) {
	for _, c := range []struct {
		l    stack
		want []byte
	}{
		{nil, nil},
		{stack{}, nil},
		{stack{{}}, []byte{0, 0, 1, 0}},
		{stack{{}, {}}, []byte{0, 0, 0, 0, 0, 0, 1, 0}},
		{stack{{Label: 16, Class: 0, Ttl: 64}}, []byte{0, 1, 1, 0x40}},
		{stack{{Label: 16, Class: 5, Ttl: 64}, {Label: 3, Class: 0, Ttl: 1}}, []byte{0, 1, 0x0a, 0x40, 0, 0, 0x31, 1}},
		{stack{{Label: 1<<20 - 1, Class: 0, Ttl: 0}}, []byte{0xff, 0xff, 0xf1, 0}},
		{stack{{Label: 0, Class: 7, Ttl: 0}}, []byte{0, 0, 0x0f, 0}},
		{stack{{Label: 0, Class: 0, Ttl: 255}}, []byte{0, 0, 1, 0xff}},
		{stack{{Label: 1<<20 - 1, Class: 7, Ttl: 255}}, []byte{0xff, 0xff, 0xff, 0xff}},
		{stack{{Label: 0x12345, Class: 1, Ttl: 2}, {Label: 0xfedcb, Class: 6, Ttl: 254}}, []byte{0x12, 0x34, 0x52, 2, 0xfe, 0xdc, 0xbd, 0xfe}},
	} {
		if g := encode(t, c.l); !bytes.Equal(g, c.want) {
			t.Errorf("Encode(%v) = %x, not %x", c.l, g, c.want)
		}
	}
}

func TestEncodeMany(t *testing.T) {
	for _, e := range valid() {
		if g, want := encode(t, stack{e}), expected(stack{e}); !bytes.Equal(g, want) {
			t.Errorf("Encode(%v) = %x, not %x", e, g, want)
		}
	}
	for _, l := range stacks() {
		if g, want := encode(t, l), expected(l); !bytes.Equal(g, want) {
			t.Errorf("Encode(%v) = %x, not %x", l, g, want)
		}
	}
}

func TestEncodeTooMany(t *testing.T) {
	for _, n := range []int{9, 10, 16, 1000} {
		// More than a stack has are too many, whether or not they are valid.
		for _, e := range []api.Entry{{}, {Label: 16, Ttl: 64}, {Label: -1}} {
			if b, g := Encode(slices.Repeat(stack{e}, n)); g != api.ErrBig || len(b) != 0 {
				t.Errorf("Encode(%d times %v) = %x, %d", n, e, b, g)
			}
		}
	}
}

func TestEncodeInvalid(t *testing.T) {
	for _, bad := range invalid() {
		for n := 1; n <= 8; n++ {
			for at := range n {
				l := make(stack, n)
				l[at] = bad
				if b, e := Encode(l); e != api.ErrArg || len(b) != 0 {
					t.Fatalf("Encode(%v) = %x, %d", l, b, e)
				}
			}
		}
	}
}

// P3.3

func TestDecode(t *testing.T) {
	for _, c := range []struct {
		b    []byte
		want stack
		rest []byte
	}{
		{[]byte{0, 1, 1, 0x40, 0xff}, stack{{Label: 16, Class: 0, Ttl: 64}}, []byte{0xff}},
		{[]byte{0, 1, 1, 0x40}, stack{{Label: 16, Class: 0, Ttl: 64}}, nil},
		{[]byte{0, 0, 1, 0}, stack{{}}, nil},
		{[]byte{0xff, 0xff, 0xff, 0xff}, stack{{Label: 1<<20 - 1, Class: 7, Ttl: 255}}, nil},
		{[]byte{0xff, 0xff, 0xfe, 0xff, 0, 0, 1, 0}, stack{{Label: 1<<20 - 1, Class: 7, Ttl: 255}, {}}, nil},
		{[]byte{0x12, 0x34, 0x52, 2, 0xfe, 0xdc, 0xbd, 0xfe, 1, 2}, stack{{Label: 0x12345, Class: 1, Ttl: 2}, {Label: 0xfedcb, Class: 6, Ttl: 254}}, []byte{1, 2}},
		// Up to the first that is marked: the next ones are bytes like others.
		{[]byte{0, 1, 1, 0x40, 0, 2, 1, 0x40}, stack{{Label: 16, Class: 0, Ttl: 64}}, []byte{0, 2, 1, 0x40}},
		{[]byte{0, 1, 1, 0x40, 0, 2, 0, 0x40}, stack{{Label: 16, Class: 0, Ttl: 64}}, []byte{0, 2, 0, 0x40}},
	} {
		l, rest, e := Decode(c.b)
		if e != api.OK || !slices.Equal(l, c.want) || !bytes.Equal(rest, c.rest) {
			t.Errorf("Decode(%x) = %v, %x, %d, not %v, %x", c.b, l, rest, e, c.want, c.rest)
		}
	}
}

// The mark alone ends a stack, wherever it is.
func TestDecodeToTheMark(t *testing.T) {
	for n := 1; n <= 8; n++ {
		for behind := range 10 {
			b := make([]byte, 4*n+behind)
			b[4*n-2] = 1
			l, rest, e := Decode(b)
			if e != api.OK || len(l) != n || len(rest) != behind {
				t.Errorf("Decode(%x) = %v, %x, %d", b, l, rest, e)
			}
		}
	}
}

func TestDecodeTooMany(t *testing.T) {
	for _, fill := range []byte{0, 0xfe} {
		for n := 32; n < 50; n++ {
			noDecode(t, bytes.Repeat([]byte{fill}, n), api.ErrBig)
		}
		// A mark that comes too late, and one that is behind the eighth.
		b := bytes.Repeat([]byte{fill}, 80)
		for at := 34; at < len(b); at += 4 {
			late := bytes.Clone(b)
			late[at] |= 1
			noDecode(t, late, api.ErrBig)
		}
		// Odd bytes that are not the third ones of an entry.
		for at := range 32 {
			if at%4 != 2 {
				other := bytes.Clone(b)
				other[at] |= 1
				noDecode(t, other, api.ErrBig)
			}
		}
	}
}

func TestDecodeShort(t *testing.T) {
	noDecode(t, nil, api.ErrShort)
	noDecode(t, []byte{}, api.ErrShort)
	noDecode(t, []byte{0, 1, 0, 0x40}, api.ErrShort)
	noDecode(t, []byte{0, 1, 1}, api.ErrShort)
	for n := range 32 {
		noDecode(t, make([]byte, n), api.ErrShort)
		noDecode(t, bytes.Repeat([]byte{0xfe}, n), api.ErrShort)
	}
	// A mark in an entry that isn't complete.
	for n := range 8 {
		b := make([]byte, 4*n+3)
		b[4*n+2] = 1
		noDecode(t, b, api.ErrShort)
	}
}

// Bytes that lie behind the argument, in the same memory, are none of it.
func TestDecodeNotBeyond(t *testing.T) {
	whole := []byte{0, 1, 0, 0x40, 0, 0, 1, 1, 9}
	for n := range 8 {
		noDecode(t, whole[:n], api.ErrShort)
	}
	if l, rest, e := Decode(whole[:8]); e != api.OK || len(l) != 2 || len(rest) != 0 {
		t.Errorf("Decode(%x) = %v, %x, %d", whole[:8], l, rest, e)
	}
}

// P3.4

func TestPush(t *testing.T) {
	entries := valid()
	for i, l := range stacks() {
		if len(l) == 8 {
			continue
		}
		e := entries[i%len(entries)]
		g, err := Push(l, e)
		if err != api.OK || len(g) != len(l)+1 || g[0] != e || !slices.Equal(g[1:], l) {
			t.Errorf("Push(%v, %v) = %v, %d", l, e, g, err)
		}
	}
	for _, e := range entries {
		if g, err := Push(nil, e); err != api.OK || !slices.Equal(g, stack{e}) {
			t.Errorf("Push(nil, %v) = %v, %d", e, g, err)
		}
	}
}

// Push asks of the entries below only how many they are.
func TestPushOnInvalid(t *testing.T) {
	for _, bad := range invalid() {
		want := stack{{Label: 16, Ttl: 64}, bad}
		if g, e := Push(stack{bad}, want[0]); e != api.OK || !slices.Equal(g, want) {
			t.Errorf("Push on %v = %v, %d", bad, g, e)
		}
	}
}

func TestPushInvalid(t *testing.T) {
	for _, bad := range invalid() {
		// The entry is named first, so that it counts on a full stack too.
		for _, n := range []int{0, 1, 7, 8, 9, 20} {
			if g, e := Push(make(stack, n), bad); e != api.ErrArg || len(g) != 0 {
				t.Errorf("Push(%d entries, %v) = %v, %d", n, bad, g, e)
			}
		}
	}
}

func TestPushTooMany(t *testing.T) {
	for _, n := range []int{8, 9, 10, 1000} {
		if g, e := Push(make(stack, n), api.Entry{Label: 16, Ttl: 64}); e != api.ErrBig || len(g) != 0 {
			t.Errorf("Push(%d entries) = %v, %d", n, g, e)
		}
	}
}

func TestPop(t *testing.T) {
	for _, l := range stacks() {
		if len(l) == 0 {
			continue
		}
		top, rest, e := Pop(l)
		if e != api.OK || top != l[0] || !slices.Equal(rest, l[1:]) {
			t.Errorf("Pop(%v) = %v, %v, %d", l, top, rest, e)
		}
	}
}

// Pop asks nothing but that there is an entry.
func TestPopOfAnything(t *testing.T) {
	bad := invalid()
	for n := 1; n <= 20; n++ {
		l := bad[:n]
		top, rest, e := Pop(l)
		if e != api.OK || top != l[0] || !slices.Equal(rest, l[1:]) {
			t.Errorf("Pop(%v) = %v, %v, %d", l, top, rest, e)
		}
	}
}

func TestPopOfNone(t *testing.T) {
	for _, l := range []stack{nil, {}, make(stack, 3)[:0]} {
		top, rest, e := Pop(l)
		if e != api.ErrNone || top != (api.Entry{}) || len(rest) != 0 {
			t.Errorf("Pop of none = %v, %v, %d", top, rest, e)
		}
	}
}

func TestPopAfterPush(t *testing.T) {
	next := mix(3)
	var l stack
	for range 8 {
		e := api.Entry{Label: next(1 << 20), Class: next(8), Ttl: next(256)}
		g, err := Push(l, e)
		top, rest, popErr := Pop(g)
		if err != api.OK || popErr != api.OK || top != e || !slices.Equal(rest, l) {
			t.Fatalf("Pop(%v) = %v, %v, %d", g, top, rest, popErr)
		}
		l = g
	}
	if _, e := Push(l, api.Entry{}); e != api.ErrBig {
		t.Errorf("Push on eight: %d", e)
	}
}

// P3.5

func TestInverse(t *testing.T) {
	next := mix(4)
	for _, l := range stacks() {
		if len(l) == 0 {
			continue
		}
		for _, behind := range [][]byte{nil, {0}, {255, 255, 255}, {0, 0, 1, 0}, make([]byte, 40), some(next, 3), some(next, 50)} {
			b := append(encode(t, l), behind...)
			g, rest, e := Decode(b)
			if e != api.OK || !slices.Equal(g, l) || !bytes.Equal(rest, behind) {
				t.Fatalf("Decode(%x) = %v, %x, %d, not %v, %x", b, g, rest, e, l, behind)
			}
		}
	}
}

// P3.6

func TestOneForm(t *testing.T) {
	next := mix(5)
	sizes := make([]int, 9)
	for range 20000 {
		b := some(next, next(45))
		l, rest, e := Decode(b)
		if e != api.OK {
			continue
		}
		sizes[len(l)]++
		for _, x := range l {
			if !May(x) {
				t.Fatalf("Decode(%x) has the entry %v", b, x)
			}
		}
		if g := append(encode(t, l), rest...); !bytes.Equal(g, b) {
			t.Fatalf("Decode(%x) is the encoding of %x", b, g)
		}
	}
	if slices.Contains(sizes[1:], 0) {
		t.Errorf("stacks of each size: %v", sizes)
	}
}

// P3.7

func TestLastEntry(t *testing.T) {
	for _, l := range stacks() {
		b := encode(t, l)
		if len(b) != 4*len(l) {
			t.Fatalf("Encode(%v) has %d bytes", l, len(b))
		}
		for i := range l {
			if marked := b[4*i+2]%2 == 1; marked != (i+1 == len(l)) {
				t.Errorf("Encode(%v) = %x: the entry %d is marked: %t", l, b, i, marked)
			}
		}
	}
}

// R6

func TestArgumentsStay(t *testing.T) {
	for _, l := range stacks() {
		room := append(slices.Clone(l), make(stack, 5)...)
		before := slices.Clone(room)
		short := room[:len(l)]
		b := encode(t, short)
		more := append(bytes.Clone(b), 1, 2, 3, 4, 5)
		kept := bytes.Clone(more)
		Push(short, api.Entry{Label: 99})
		Pop(short)
		Decode(more[:len(b)+1])
		if !slices.Equal(room, before) || !bytes.Equal(more, kept) {
			t.Fatalf("the arguments became %v and %x", room, more)
		}
	}
}

func TestResultsAreNew(t *testing.T) {
	l := stack{{Label: 16, Class: 1, Ttl: 64}, {Label: 17, Class: 2, Ttl: 65}, {Label: 18, Class: 3, Ttl: 66}}
	kept := slices.Clone(l)
	b := append(encode(t, l), 7, 8, 9)
	same := bytes.Clone(b)

	pushed, _ := Push(l, api.Entry{Label: 99})
	clear(pushed[:cap(pushed)])
	_, popped, _ := Pop(l)
	clear(popped[:cap(popped)])
	if !slices.Equal(l, kept) {
		t.Errorf("a change of a result changed the stack: %v", l)
	}

	decoded, rest, _ := Decode(b)
	clear(decoded[:cap(decoded)])
	clear(rest[:cap(rest)])
	if !bytes.Equal(b, same) {
		t.Errorf("a change of a result changed the bytes: %x", b)
	}
}

func TestResultsStay(t *testing.T) {
	l := stack{{Label: 16, Class: 1, Ttl: 64}, {Label: 17, Class: 2, Ttl: 65}, {Label: 18, Class: 3, Ttl: 66}}
	kept := slices.Clone(l)
	b := append(encode(t, l), 7, 8, 9)

	pushed, _ := Push(l, api.Entry{Label: 99})
	_, popped, _ := Pop(l)
	decoded, rest, _ := Decode(b)
	clear(l)
	clear(b)
	if !slices.Equal(pushed[1:], kept) || !slices.Equal(popped, kept[1:]) {
		t.Errorf("a change of the stack changed a result: %v, %v", pushed, popped)
	}
	if !slices.Equal(decoded, kept) || !bytes.Equal(rest, []byte{7, 8, 9}) {
		t.Errorf("a change of the bytes changed a result: %v, %x", decoded, rest)
	}
}
