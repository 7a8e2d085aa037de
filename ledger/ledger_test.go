package ledger

import (
	"math"
	"math/big"
	"testing"

	"viaduct/api"
)

const (
	// most is the greatest number of 64 bits.
	most = math.MaxUint64
	// half is the least one whose double is none of them.
	half = 1 << 63
)

// edges are numbers whose sums are often just a 64-bit number, or just none.
var edges = []uint64{0, 1, 2, 7, 1<<32 - 1, 1 << 32, math.MaxInt64, half, half + 1, most - 1, most}

// wrong are numbers that are no priorities; some are 0 to 7 if some of their bits are left out.
var wrong = []int{math.MinInt, math.MinInt + 7, -1 << 32, -256, -9, -8, -7, -1, 8, 9, 15, 16, 256, 1 << 32, 1<<32 + 7, math.MaxInt}

// mix answers numbers without an order to be seen, the same in every run.
func mix(seed uint64) func(n int) int {
	return func(n int) int {
		seed = seed*6364136223846793005 + 1442695040888963407
		return int(((seed ^ seed>>29) >> 8) % uint64(n))
	}
}

// number is small, near an edge, or of any 64 bits.
func number(next func(n int) int) uint64 {
	switch next(4) {
	case 0:
		return uint64(next(12))
	case 1:
		return edges[next(len(edges))]
	case 2:
		return most >> next(64)
	}
	return uint64(next(1<<32))<<32 | uint64(next(1<<32))
}

// random is a ledger of any numbers, valid or not.
func random(next func(n int) int) Ledger {
	l := Ledger{Cap: number(next)}
	for p := range l.Held {
		if next(3) == 0 {
			l.Held[p] = number(next)
		}
	}
	return l
}

// valid is a valid ledger of any numbers, whose bandwidth is often all held.
func valid(next func(n int) int) Ledger {
	l := Ledger{Cap: number(next)}
	left := l.Cap
	for range next(12) {
		bw := number(next)
		if bw > left || next(6) == 0 {
			bw = left
		}
		l.Held[next(8)] += bw
		left -= bw
	}
	return l
}

// before adds up what is held at the first n priorities, by numbers of any size.
func before(l Ledger, n int) *big.Int {
	sum := new(big.Int)
	for p := range n {
		sum.Add(sum, new(big.Int).SetUint64(l.Held[p]))
	}
	return sum
}

// fits says whether a number is one of 64 bits, and at most top.
func fits(n *big.Int, top uint64) bool {
	return n.Cmp(new(big.Int).SetUint64(top)) <= 0
}

// free is Free by another way.
func free(l Ledger) [8]uint64 {
	var all [8]uint64
	for p := range 8 {
		if left := new(big.Int).Sub(new(big.Int).SetUint64(l.Cap), before(l, p+1)); left.Sign() > 0 {
			all[p] = left.Uint64()
		}
	}
	return all
}

// put is Put by another way.
func put(l Ledger, p int, bw uint64) (Ledger, api.Errno) {
	if p < 0 || p > 7 || !fits(before(l, 8), l.Cap) {
		return Ledger{}, api.ErrArg
	}
	if !fits(new(big.Int).Add(before(l, 8), new(big.Int).SetUint64(bw)), l.Cap) {
		return Ledger{}, api.ErrRoom
	}
	l.Held[p] += bw
	return l, api.OK
}

// take is Take by another way.
func take(l Ledger, p int, bw uint64) (Ledger, api.Errno) {
	if p < 0 || p > 7 || !fits(before(l, 8), l.Cap) {
		return Ledger{}, api.ErrArg
	}
	if bw > l.Held[p] {
		return Ledger{}, api.ErrNone
	}
	l.Held[p] -= bw
	return l, api.OK
}

func adds(t *testing.T, a, b, want uint64, ok bool) {
	t.Helper()
	if n, good := Add(a, b); n != want || good != ok {
		t.Fatalf("Add(%d, %d) = %d, %v, not %d, %v", a, b, n, good, want, ok)
	}
}

func sums(t *testing.T, l Ledger, want uint64, ok bool) {
	t.Helper()
	if n, good := Sum(l); n != want || good != ok {
		t.Fatalf("Sum(%v) = %d, %v, not %d, %v", l, n, good, want, ok)
	}
}

func right(t *testing.T, l Ledger, want bool) {
	t.Helper()
	if Right(l) != want {
		t.Fatalf("Right(%v) isn't %v", l, want)
	}
}

func frees(t *testing.T, l Ledger, want [8]uint64) {
	t.Helper()
	if got := Free(l); got != want {
		t.Fatalf("Free(%v) = %v, not %v", l, got, want)
	}
}

// puts asks for a ledger, or for an error with a zero one.
func puts(t *testing.T, l Ledger, p int, bw uint64, want Ledger, e api.Errno) {
	t.Helper()
	if got, err := Put(l, p, bw); got != want || err != e {
		t.Fatalf("Put(%v, %d, %d) = %v, %d, not %v, %d", l, p, bw, got, err, want, e)
	}
}

// takes asks for a ledger, or for an error with a zero one.
func takes(t *testing.T, l Ledger, p int, bw uint64, want Ledger, e api.Errno) {
	t.Helper()
	if got, err := Take(l, p, bw); got != want || err != e {
		t.Fatalf("Take(%v, %d, %d) = %v, %d, not %v, %d", l, p, bw, got, err, want, e)
	}
}

// check asks a ledger everything that is no change.
func check(t *testing.T, l Ledger) {
	t.Helper()
	if sum := before(l, 8); fits(sum, most) {
		sums(t, l, sum.Uint64(), true)
		right(t, l, sum.Uint64() <= l.Cap)
	} else {
		sums(t, l, 0, false)
		right(t, l, false)
	}
	frees(t, l, free(l))
}

// example is the chapter's.
func example() Ledger {
	return Ledger{10, [8]uint64{3: 4, 7: 3}}
}

// invalid are ledgers that are not valid.
func invalid() []Ledger {
	return []Ledger{
		{0, [8]uint64{1}}, {0, [8]uint64{7: 1}}, {5, [8]uint64{1: 3, 2: 3, 4: 1}}, {10, [8]uint64{11}}, {7, [8]uint64{1, 1, 1, 1, 1, 1, 1, 1}}, {most - 1, [8]uint64{4: most}},
		// These sums are no 64-bit numbers, and 0 to 7 if they wrapped round.
		{10, [8]uint64{half, half}}, {most, [8]uint64{half, half}}, {most, [8]uint64{most, 1}}, {most, [8]uint64{1, 6: most}}, {most, [8]uint64{half, 0, 0, half, 0, 0, 0, 7}}, {most, [8]uint64{7: most, 6: 1}}, {most, [8]uint64{most, most, most, most, most, most, most, most}},
		{most, [8]uint64{1 << 62, 1 << 62, 1 << 62, 1 << 62}}, {most, [8]uint64{1 << 61, 1 << 61, 1 << 61, 1 << 61, 1 << 61, 1 << 61, 1 << 61, 1 << 61}},
	}
}

// P13.1

func TestAdd(t *testing.T) {
	for _, c := range []struct {
		a, b, want uint64
		ok         bool
	}{
		{most, 1, 0, false}, {0, 0, 0, true}, {3, 4, 7, true}, {0, most, most, true}, {most - 1, 1, most, true}, {most - 1, 2, 0, false}, {most, most, 0, false}, {2, most, 0, false},
		{half, half, 0, false}, {half, half - 1, most, true}, {half - 1, half - 1, most - 1, true}, {half, half + 5, 0, false}, {1<<32 - 1, 1, 1 << 32, true}, {math.MaxInt64, 1, half, true}, {math.MaxInt64, math.MaxInt64, most - 1, true},
	} {
		adds(t, c.a, c.b, c.want, c.ok)
		adds(t, c.b, c.a, c.want, c.ok)
	}
}

func TestAddMany(t *testing.T) {
	next := mix(1)
	yes := 0
	for range 100000 {
		a, b := number(next), number(next)
		sum := new(big.Int).Add(new(big.Int).SetUint64(a), new(big.Int).SetUint64(b))
		if fits(sum, most) {
			adds(t, a, b, sum.Uint64(), true)
			yes++
		} else {
			adds(t, a, b, 0, false)
		}
	}
	if yes < 10000 || yes > 90000 {
		t.Errorf("%d sums", yes)
	}
}

func TestSum(t *testing.T) {
	sums(t, example(), 7, true)
	sums(t, Ledger{}, 0, true)
	sums(t, Ledger{Cap: most}, 0, true)
	// Each priority counts, and Cap does not.
	sums(t, Ledger{0, [8]uint64{1, 2, 4, 8, 16, 32, 64, 128}}, 255, true)
	for p := range 8 {
		l := Ledger{Cap: 3}
		l.Held[p] = 9
		sums(t, l, 9, true)
		l.Held[p] = most
		sums(t, l, most, true)
		for other := range 8 {
			if other != p {
				more := l
				more.Held[other] = 1
				sums(t, more, 0, false)
			}
		}
	}
}

// Once the sum is no 64-bit number, it doesn't become one again.
func TestSumTooGreat(t *testing.T) {
	sums(t, Ledger{most, [8]uint64{half, half, 5}}, 0, false)
	sums(t, Ledger{most, [8]uint64{half, 0, 0, half}}, 0, false)
	sums(t, Ledger{most, [8]uint64{half, half, half, half - 1}}, 0, false)
	sums(t, Ledger{most, [8]uint64{most, most, 2}}, 0, false)
	sums(t, Ledger{most, [8]uint64{1 << 61, 1 << 61, 1 << 61, 1 << 61, 1 << 61, 1 << 61, 1 << 61, 1<<61 - 1}}, most, true)
	sums(t, Ledger{most, [8]uint64{1 << 61, 1 << 61, 1 << 61, 1 << 61, 1 << 61, 1 << 61, 1 << 61, 1 << 61}}, 0, false)
}

func TestRight(t *testing.T) {
	right(t, example(), true)
	for _, l := range []Ledger{{}, {Cap: 1}, {Cap: most}, {7, [8]uint64{3: 4, 7: 3}}, {8, [8]uint64{1, 1, 1, 1, 1, 1, 1, 1}}, {most, [8]uint64{most}}, {most, [8]uint64{7: most}}, {most, [8]uint64{half, half - 1}}, {half, [8]uint64{5: half}}} {
		right(t, l, true)
	}
	for _, l := range invalid() {
		right(t, l, false)
	}
	for p := range 8 {
		l := Ledger{Cap: 5}
		for bw := range uint64(12) {
			l.Held[p] = bw
			right(t, l, bw <= 5)
		}
	}
}

// P13.2

func TestFree(t *testing.T) {
	for _, c := range []struct {
		l    Ledger
		want [8]uint64
	}{
		{example(), [8]uint64{10, 10, 10, 6, 6, 6, 6, 3}},
		{Ledger{}, [8]uint64{}}, {Ledger{Cap: 9}, [8]uint64{9, 9, 9, 9, 9, 9, 9, 9}}, {Ledger{Cap: most}, [8]uint64{most, most, most, most, most, most, most, most}},
		{Ledger{10, [8]uint64{1, 1, 1, 1, 1, 1, 1, 1}}, [8]uint64{9, 8, 7, 6, 5, 4, 3, 2}}, {Ledger{10, [8]uint64{10}}, [8]uint64{}}, {Ledger{10, [8]uint64{7: 10}}, [8]uint64{10, 10, 10, 10, 10, 10, 10, 0}},
		// More is held than there is, from some priority on.
		{Ledger{5, [8]uint64{1: 3, 2: 3, 4: 1}}, [8]uint64{5, 2}}, {Ledger{5, [8]uint64{6}}, [8]uint64{}}, {Ledger{5, [8]uint64{4, 1, 1}}, [8]uint64{1}}, {Ledger{0, [8]uint64{3: 1}}, [8]uint64{}}, {Ledger{5, [8]uint64{7: 6}}, [8]uint64{5, 5, 5, 5, 5, 5, 5}},
		// The sum is no 64-bit number from some priority on, and would be small if it wrapped round.
		{Ledger{most, [8]uint64{half, half, 5}}, [8]uint64{half - 1}}, {Ledger{most, [8]uint64{2: most, 3: 1, 5: 7}}, [8]uint64{most, most}}, {Ledger{10, [8]uint64{1, most, 1, 1}}, [8]uint64{9}}, {Ledger{10, [8]uint64{half, half, 1}}, [8]uint64{}}, {Ledger{most, [8]uint64{1, 1, 7: most}}, [8]uint64{most - 1, most - 2, most - 2, most - 2, most - 2, most - 2, most - 2, 0}},
		{Ledger{most, [8]uint64{0, 0, 0, 0, half, half - 1, 0, 1}}, [8]uint64{most, most, most, most, half - 1, 0, 0, 0}},
	} {
		frees(t, c.l, c.want)
	}
}

// Ledgers of a few numbers, in every combination.
func TestEachLedger(t *testing.T) {
	for _, few := range [][3]uint64{{0, 1, 2}, {0, half, most}} {
		for _, size := range []uint64{0, 1, 3, half - 1, half, most} {
			for code := range 3 * 3 * 3 * 3 * 3 * 3 * 3 * 3 {
				l := Ledger{Cap: size}
				for p := range 8 {
					l.Held[p] = few[code%3]
					code /= 3
				}
				check(t, l)
			}
		}
	}
}

func TestManyLedgers(t *testing.T) {
	next := mix(2)
	yes := 0
	for range 50000 {
		l := random(next)
		check(t, l)
		if Right(l) {
			yes++
		}
		check(t, valid(next))
	}
	if yes < 5000 || yes > 45000 {
		t.Errorf("%d valid", yes)
	}
}

// P13.3

func TestPut(t *testing.T) {
	l := example()
	puts(t, l, 3, 3, Ledger{10, [8]uint64{3: 7, 7: 3}}, api.OK)
	puts(t, l, 3, 4, Ledger{}, api.ErrRoom)
	puts(t, l, 3, 0, l, api.OK)
	// What would be free for a high priority is held at a low one: nothing is preempted here.
	puts(t, l, 0, 3, Ledger{10, [8]uint64{0: 3, 3: 4, 7: 3}}, api.OK)
	puts(t, l, 0, 4, Ledger{}, api.ErrRoom)
	puts(t, l, 7, 3, Ledger{10, [8]uint64{3: 4, 7: 6}}, api.OK)
	puts(t, l, 7, 4, Ledger{}, api.ErrRoom)
	for p := range 8 {
		full := Ledger{Cap: 5}
		full.Held[p] = 5
		puts(t, Ledger{Cap: 5}, p, 5, full, api.OK)
		puts(t, Ledger{Cap: 5}, p, 6, Ledger{}, api.ErrRoom)
		puts(t, full, p, 0, full, api.OK)
		puts(t, full, p, 1, Ledger{}, api.ErrRoom)
		puts(t, full, 7-p, 1, Ledger{}, api.ErrRoom)
		puts(t, Ledger{}, p, 0, Ledger{}, api.OK)
		puts(t, Ledger{}, p, 1, Ledger{}, api.ErrRoom)
	}
}

// These sums wrap round to one that is valid.
func TestPutTooMuch(t *testing.T) {
	for _, bw := range []uint64{most, most - 1, most - 3, most - 6, half, 4} {
		for p := range 8 {
			puts(t, example(), p, bw, Ledger{}, api.ErrRoom)
		}
	}
	puts(t, Ledger{most, [8]uint64{most}}, 0, 1, Ledger{}, api.ErrRoom)
	puts(t, Ledger{most, [8]uint64{most}}, 1, 1, Ledger{}, api.ErrRoom)
	puts(t, Ledger{most, [8]uint64{most}}, 0, most, Ledger{}, api.ErrRoom)
	puts(t, Ledger{most, [8]uint64{2: half}}, 2, half, Ledger{}, api.ErrRoom)
	puts(t, Ledger{most, [8]uint64{2: half}}, 5, half, Ledger{}, api.ErrRoom)
	puts(t, Ledger{most, [8]uint64{2: half}}, 2, half-1, Ledger{most, [8]uint64{2: most}}, api.OK)
	puts(t, Ledger{Cap: most}, 7, most, Ledger{most, [8]uint64{7: most}}, api.OK)
}

func TestTake(t *testing.T) {
	l := example()
	takes(t, l, 7, 4, Ledger{}, api.ErrNone)
	takes(t, l, 7, 3, Ledger{10, [8]uint64{3: 4}}, api.OK)
	takes(t, l, 7, 1, Ledger{10, [8]uint64{3: 4, 7: 2}}, api.OK)
	takes(t, l, 3, 4, Ledger{10, [8]uint64{7: 3}}, api.OK)
	takes(t, l, 3, 5, Ledger{}, api.ErrNone)
	for _, p := range []int{0, 1, 2, 4, 5, 6} {
		takes(t, l, p, 0, l, api.OK)
		takes(t, l, p, 1, Ledger{}, api.ErrNone)
	}
	for p := range 8 {
		full := Ledger{Cap: most}
		full.Held[p] = most
		takes(t, full, p, most, Ledger{Cap: most}, api.OK)
		takes(t, full, 7-p, 1, Ledger{}, api.ErrNone)
		takes(t, Ledger{Cap: most}, p, most, Ledger{}, api.ErrNone)
		takes(t, Ledger{}, p, 0, Ledger{}, api.OK)
		takes(t, Ledger{}, p, 1, Ledger{}, api.ErrNone)
	}
	takes(t, Ledger{most, [8]uint64{4: half}}, 4, half+1, Ledger{}, api.ErrNone)
	takes(t, Ledger{most, [8]uint64{4: 1}}, 4, half+1, Ledger{}, api.ErrNone)
}

// ErrArg is named first, whatever else is wrong.
func TestWrongPriority(t *testing.T) {
	for _, p := range wrong {
		for _, l := range append(invalid(), Ledger{}, Ledger{Cap: most}, example()) {
			for _, bw := range edges {
				puts(t, l, p, bw, Ledger{}, api.ErrArg)
				takes(t, l, p, bw, Ledger{}, api.ErrArg)
			}
		}
	}
}

func TestInvalidLedger(t *testing.T) {
	for _, l := range invalid() {
		for p := range 8 {
			// Neither nothing, nor what would make it valid.
			for _, bw := range append(edges, l.Held[p]) {
				puts(t, l, p, bw, Ledger{}, api.ErrArg)
				takes(t, l, p, bw, Ledger{}, api.ErrArg)
			}
		}
	}
}

func TestPutAndTakeOfMany(t *testing.T) {
	next := mix(3)
	seen := map[api.Errno]int{}
	for i := range 100000 {
		l, p, bw := valid(next), next(8), number(next)
		switch {
		case i%10 == 0:
			l = random(next)
		case i%10 == 1:
			p = wrong[next(len(wrong))]
		case i%10 == 2: // just as much as can be taken, or one more
			bw = l.Held[p] + uint64(next(2))
		case i%10 == 3: // just as much as can be put, or one more
			bw = free(l)[7] + uint64(next(2))
		}
		want, e := put(l, p, bw)
		puts(t, l, p, bw, want, e)
		seen[e]++
		want, e = take(l, p, bw)
		takes(t, l, p, bw, want, e)
		seen[e]++
	}
	for _, e := range []api.Errno{api.OK, api.ErrArg, api.ErrRoom, api.ErrNone} {
		if seen[e] < 5000 {
			t.Errorf("the error %d %d times", e, seen[e])
		}
	}
}

// P13.4

func TestInverse(t *testing.T) {
	next := mix(4)
	done := 0
	for range 100000 {
		l, p := valid(next), next(8)
		bw := number(next)
		if left := free(l)[7]; bw > left {
			bw = left
		}
		more, e := Put(l, p, bw)
		if e != api.OK {
			t.Fatalf("Put(%v, %d, %d): %d", l, p, bw, e)
		}
		takes(t, more, p, bw, l, api.OK)
		if bw > 0 {
			done++
		}
	}
	if done < 10000 {
		t.Errorf("%d put", done)
	}
}

// P13.5

func TestMonotonic(t *testing.T) {
	next := mix(5)
	for i := range 100000 {
		l := random(next)
		if i%2 == 0 {
			l = valid(next)
		}
		all := Free(l)
		for p := range 7 {
			if all[p+1] > all[p] {
				t.Fatalf("Free(%v) = %v", l, all)
			}
		}
		if sum, ok := Sum(l); Right(l) && (!ok || all[7] != l.Cap-sum) {
			t.Fatalf("Free(%v) = %v, of a sum of %d", l, all, sum)
		}
	}
}

// P13.6

func TestAlwaysValid(t *testing.T) {
	next := mix(6)
	for _, size := range append(edges, 10, 100, 1<<40) {
		l, room, none := Ledger{Cap: size}, 0, 0
		for range 3000 {
			p, bw := next(8), number(next)
			if size > 0 && next(3) > 0 {
				bw %= size/4 + 1
			}
			var more Ledger
			var e api.Errno
			if next(2) == 0 {
				more, e = Put(l, p, bw)
			} else {
				more, e = Take(l, p, bw)
			}
			switch e {
			case api.OK:
				l = more
			case api.ErrRoom:
				room++
			case api.ErrNone:
				none++
			default:
				t.Fatalf("of %v, %d, %d: the error %d", l, p, bw, e)
			}
			if l.Cap != size || !fits(before(l, 8), size) {
				t.Fatalf("%v isn't valid for %d", l, size)
			}
			check(t, l)
		}
		if none == 0 || room == 0 && size < most-1 {
			t.Errorf("of %d: without room %d times, without what to take %d times", size, room, none)
		}
	}
}

// P13.7

func TestWhichPriorities(t *testing.T) {
	next := mix(7)
	for range 50000 {
		l, p := valid(next), next(8)
		bw := number(next)
		if left := free(l)[7]; bw > left {
			bw = left
		}
		more, e := Put(l, p, bw)
		if e != api.OK {
			t.Fatalf("Put(%v, %d, %d): %d", l, p, bw, e)
		}
		want := Free(l)
		for lower := p; lower < 8; lower++ {
			want[lower] -= bw
		}
		frees(t, more, want)
	}
	for p := range 8 {
		more, _ := Put(Ledger{Cap: 9}, p, 4)
		want := [8]uint64{9, 9, 9, 9, 9, 9, 9, 9}
		for lower := p; lower < 8; lower++ {
			want[lower] = 5
		}
		frees(t, more, want)
	}
}

// The argument and the result are values of their own.
func TestArgumentStays(t *testing.T) {
	l := example()
	more, _ := Put(l, 3, 2)
	less, _ := Take(l, 3, 2)
	all := Free(l)
	all[3]++
	more.Held[7]++
	less.Held[7]++
	if l != example() {
		t.Errorf("the ledger is %v now", l)
	}
	frees(t, l, [8]uint64{10, 10, 10, 6, 6, 6, 6, 3})
}
