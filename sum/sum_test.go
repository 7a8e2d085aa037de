package sum

import (
	"bytes"
	"math"
	"testing"

	"viaduct/api"
)

// mix answers numbers without an order to be seen, the same in every run.
func mix(seed uint64) func() uint64 {
	return func() uint64 {
		seed = seed*6364136223846793005 + 1442695040888963407
		return seed ^ seed>>29
	}
}

// some answers n bytes of next.
func some(next func() uint64, n int) []byte {
	b := make([]byte, n)
	for i := range b {
		b[i] = byte(next() >> 20)
	}
	return b
}

// samples: bytes of every length up to 40, of all zeros, of all ones and mixed ones.
func samples() [][]byte {
	next := mix(1)
	var all [][]byte
	for n := range 41 {
		all = append(all, make([]byte, n), bytes.Repeat([]byte{255}, n))
		for range 5 {
			all = append(all, some(next, n))
		}
	}
	return all
}

// expected is the checksum by another way: the plain total of the words, reduced once at the end. Only a total of 0 stays 0.
func expected(b []byte) uint16 {
	total := 0
	for i, x := range b {
		if i%2 == 0 {
			total += int(x) * 256
		} else {
			total += int(x)
		}
	}
	if total == 0 {
		return 65535
	}
	return uint16(65535 - ((total-1)%65535 + 1))
}

// seal is Seal where it must not fail.
func seal(t *testing.T, b []byte, at int) []byte {
	t.Helper()
	g, e := Seal(b, at)
	if e != api.OK {
		t.Fatalf("Seal(%x, %d): %d", b, at, e)
	}
	return g
}

// P2.1

func TestAdd(t *testing.T) {
	for _, c := range []struct{ a, b, want uint16 }{
		{0, 0, 0}, {0, 1, 1}, {1, 2, 3},
		{65535, 0, 65535}, {0, 65535, 65535}, {65534, 1, 65535}, {32768, 32767, 65535},
		{65535, 1, 1}, {1, 65535, 1}, {65534, 2, 1}, {32768, 32768, 1},
		{65535, 65534, 65534}, {65535, 65535, 65535}, {65534, 65534, 65533},
	} {
		if g := Add(c.a, c.b); g != c.want {
			t.Errorf("Add(%d, %d) = %d, not %d", c.a, c.b, g, c.want)
		}
	}
}

func TestAddMany(t *testing.T) {
	next := mix(2)
	for range 20000 {
		a, b := uint16(next()>>16), uint16(next()>>16)
		want := int(a) + int(b)
		if want > 65535 {
			want -= 65535
		}
		if g := Add(a, b); int(g) != want {
			t.Fatalf("Add(%d, %d) = %d, not %d", a, b, g, want)
		}
	}
}

func TestOf(t *testing.T) {
	for _, c := range []struct {
		b    []byte
		want uint16
	}{
		{nil, 65535},
		{[]byte{}, 65535},
		{[]byte{0}, 65535},
		{[]byte{0, 0, 0}, 65535},
		{[]byte{1}, 0xfeff},
		{[]byte{0xff}, 0x00ff},
		{[]byte{0, 1}, 0xfffe},
		{[]byte{1, 2}, 0xfefd},
		{[]byte{1, 2, 3}, 0xfbfd},
		{[]byte{0xff, 0xff}, 0},
		{[]byte{0xff, 0xff, 0xff, 0xff}, 0},
		{[]byte{0xff, 0xff, 0, 0}, 0},
		{[]byte{0xff, 0xff, 0, 1}, 0xfffe},
		{[]byte{0, 1, 0xf2, 3, 0xf4, 0xf5, 0xf6, 0xf7}, 0x220d},
		{[]byte{0, 1, 0xf2, 3, 0xf4, 0xf5, 0xf6, 0xf7, 0x22, 0x0d}, 0},
	} {
		if g := Of(c.b); g != c.want {
			t.Errorf("Of(%x) = %x, not %x", c.b, g, c.want)
		}
	}
}

func TestOfMany(t *testing.T) {
	for _, b := range append(samples(), bytes.Repeat([]byte{255, 254, 253}, 70001)) {
		if g, want := Of(b), expected(b); g != want {
			t.Errorf("Of(%d bytes) = %x, not %x", len(b), g, want)
		}
	}
}

func TestRight(t *testing.T) {
	for _, b := range [][]byte{
		{0xff, 0xff},
		{0xff, 0xff, 0, 0, 0},
		{1, 2, 0xfe, 0xfd},
		{0xfe, 0xff, 1},
		{0, 1, 0xf2, 3, 0xf4, 0xf5, 0xf6, 0xf7, 0x22, 0x0d},
	} {
		if !Right(b) {
			t.Errorf("Right(%x) is false", b)
		}
	}
	for _, b := range [][]byte{nil, {}, {0}, {0, 0}, {0xff}, {0xff, 0xfe}, {1, 2, 0xfe, 0xfc}, {0xfe, 0xff, 0}, {0xfe, 0xff, 0, 1, 1}} {
		if Right(b) {
			t.Errorf("Right(%x) is true", b)
		}
	}
}

func TestRightMany(t *testing.T) {
	for _, b := range samples() {
		if g, want := Right(b), expected(b) == 0; g != want {
			t.Errorf("Right(%x) is %t", b, g)
		}
	}
}

// An odd number of bytes with others behind them, in the same memory, is completed without those.
func TestBytesBehind(t *testing.T) {
	whole := []byte{1, 2, 3, 4, 5, 6, 7, 8}
	before := bytes.Clone(whole)
	for n := range len(whole) + 1 {
		if g, want := Of(whole[:n]), expected(before[:n]); g != want {
			t.Errorf("Of(%x) = %x, not %x", before[:n], g, want)
		}
		Right(whole[:n])
		for at := -1; at <= n; at++ {
			Seal(whole[:n], at)
		}
		if !bytes.Equal(whole, before) {
			t.Fatalf("the argument of %d bytes became %x", n, whole)
		}
	}
}

// P2.2

func TestSeal(t *testing.T) {
	for _, c := range []struct {
		b    []byte
		at   int
		want []byte
	}{
		{[]byte{1, 2, 0, 0}, 2, []byte{1, 2, 0xfe, 0xfd}},
		{[]byte{1, 2, 7, 7}, 2, []byte{1, 2, 0xfe, 0xfd}},
		{[]byte{0, 0, 1, 2}, 0, []byte{0xfe, 0xfd, 1, 2}},
		{[]byte{1, 2, 9, 9, 3}, 2, []byte{1, 2, 0xfb, 0xfd, 3}},
		{[]byte{0, 0}, 0, []byte{0xff, 0xff}},
		{[]byte{8, 9}, 0, []byte{0xff, 0xff}},
		{[]byte{0xff, 0xff, 0, 0}, 2, []byte{0xff, 0xff, 0, 0}},
		{[]byte{0xff, 0xff, 1, 0}, 2, []byte{0xff, 0xff, 0, 0}},
	} {
		g, e := Seal(c.b, c.at)
		if e != api.OK || !bytes.Equal(g, c.want) {
			t.Errorf("Seal(%x, %d) = %x, %d, not %x", c.b, c.at, g, e, c.want)
		}
	}
}

func TestSealMany(t *testing.T) {
	for _, b := range samples() {
		for at := 0; at+2 <= len(b); at += 2 {
			want := bytes.Clone(b)
			want[at], want[at+1] = 0, 0
			check := expected(want)
			want[at], want[at+1] = byte(check>>8), byte(check)
			if g := seal(t, b, at); !bytes.Equal(g, want) {
				t.Fatalf("Seal(%x, %d) = %x, not %x", b, at, g, want)
			}
		}
	}
}

func TestSealNowhere(t *testing.T) {
	for n := range 10 {
		b := bytes.Repeat([]byte{7}, n)
		offsets := []int{math.MinInt, math.MinInt + 1, -4, -3, -2, -1, n - 1, n, n + 1, n + 2, math.MaxInt - 1, math.MaxInt}
		for at := 1; at < n; at += 2 {
			offsets = append(offsets, at)
		}
		for _, at := range offsets {
			if g, e := Seal(b, at); e != api.ErrArg || len(g) != 0 {
				t.Errorf("Seal(%d bytes, %d) = %x, %d", n, at, g, e)
			}
		}
	}
	for _, at := range []int{-2, 0, 1, 2} {
		if g, e := Seal(nil, at); e != api.ErrArg || len(g) != 0 {
			t.Errorf("Seal(nil, %d) = %x, %d", at, g, e)
		}
	}
}

func TestSealIsNew(t *testing.T) {
	whole := []byte{1, 2, 3, 4, 5, 6, 7, 8}
	before := bytes.Clone(whole)
	for n := 2; n <= len(whole); n++ {
		for at := 0; at+2 <= n; at += 2 {
			one, two := seal(t, whole[:n], at), seal(t, whole[:n], at)
			kept := bytes.Clone(two)
			clear(one[:cap(one)])
			if !bytes.Equal(whole, before) || !bytes.Equal(two, kept) {
				t.Fatalf("what Seal returned shares memory: %x, %x", whole, two)
			}
			whole[at] ^= 255
			if !bytes.Equal(two, kept) {
				t.Fatalf("a change of the argument changed the result: %x", two)
			}
			whole[at] ^= 255
		}
	}
}

// P2.3

func TestSealed(t *testing.T) {
	for _, b := range samples() {
		for at := 0; at+2 <= len(b); at += 2 {
			g := seal(t, b, at)
			if !Right(g) || Of(g) != 0 {
				t.Fatalf("Seal(%x, %d) = %x, which is not right", b, at, g)
			}
			if again := seal(t, g, at); !bytes.Equal(again, g) {
				t.Fatalf("sealed again, %x became %x", g, again)
			}
		}
	}
}

// P2.4

func TestDetection(t *testing.T) {
	for _, b := range samples() {
		if len(b) < 2 {
			continue
		}
		g := seal(t, b, len(b)/4*2)
		for i, old := range g {
			for x := range 256 {
				g[i] = byte(x)
				if Right(g) != (g[i] == old) {
					t.Fatalf("Right(%x), where byte %d was %x, is %t", g, i, old, Right(g))
				}
			}
			g[i] = old
		}
	}
}

// P2.5

func TestConcatenation(t *testing.T) {
	for _, b := range samples() {
		for cut := 0; cut <= len(b); cut += 2 {
			x, y := 65535-Of(b[:cut]), 65535-Of(b[cut:])
			if g, want := Of(b), 65535-Add(x, y); g != want {
				t.Fatalf("Of(%x) = %x, and of its parts, cut at %d, %x", b, g, cut, want)
			}
		}
	}
}

// P2.6

func TestOrder(t *testing.T) {
	for _, b := range samples() {
		want := Of(b)
		words := len(b) / 2
		for i := range words {
			for j := range i {
				g := bytes.Clone(b)
				copy(g[2*i:2*i+2], b[2*j:])
				copy(g[2*j:2*j+2], b[2*i:])
				if Of(g) != want {
					t.Fatalf("Of(%x) = %x, and with the words %d and %d exchanged %x", b, want, i, j, Of(g))
				}
			}
		}
	}
}

// The word of an odd last byte can stand anywhere, once its zero byte is written out.
func TestOrderOfLastByte(t *testing.T) {
	for _, b := range samples() {
		if len(b)%2 == 0 {
			continue
		}
		last := len(b) - 1
		g := append([]byte{b[last], 0}, b[:last]...)
		if Of(g) != Of(b) {
			t.Errorf("Of(%x) = %x, and with the last word in front %x", b, Of(b), Of(g))
		}
	}
}
