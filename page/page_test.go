package page

import (
	"math"
	"slices"
	"testing"
)

const (
	top      = ^uint64(0)
	holeFrom = uint64(1) << 43            // the first address in the hole
	holeTo   = uint64(0xfffff80000000000) // the first one behind it
)

// bytes are the pages' bytes, written out; all that the tests hold the package against is made of them by dividing and multiplying.
var bytes = []uint64{8192, 65536, 524288, 4194304}

// wrongSizes are no sizes; Small and More times some of them wrap round.
var wrongSizes = []int{math.MinInt, math.MinInt + 1, -1 << 62, -64, -4, -3, -2, -1, 4, 5, 6, 7, 8, 16, 17, 64, 1 << 32, 1 << 61, 1 << 62, math.MaxInt - 1, math.MaxInt}

// spots are addresses that pages begin at or ends lie at: both ends of the hole and of all addresses, and powers of 2.
func spots() []uint64 {
	l := []uint64{0, holeFrom, holeTo, 0x12345000, 0x402000, 0xfffff80000400000, 0xabcdef0123456789}
	for i := range 64 {
		l = append(l, 1<<i, -(uint64(1) << i))
	}
	return l
}

// addresses are spots and what lies around them by a byte and by a page of each size.
func addresses() []uint64 {
	var l []uint64
	for _, s := range spots() {
		l = append(l, s-1, s, s+1)
		for _, n := range bytes {
			l = append(l, s-n-1, s-n, s-n+1, s+n-1, s+n, s+n+1)
		}
	}
	slices.Sort(l)
	return slices.Compact(l)
}

// P2.1

func TestHoleEnds(t *testing.T) {
	for _, c := range []struct {
		va   uint64
		want bool
	}{
		{0, false}, {1, false}, {8192, false}, {1 << 42, false}, {holeFrom - 1, false},
		{holeFrom, true}, {holeFrom + 1, true}, {1<<44 - 1, true}, {1 << 44, true}, {1<<44 + 1, true}, {1<<63 - 1, true}, {1 << 63, true}, {0x7ffff80000000000, true},
		{0xfffff00000000000, true}, {0xffffefffffffffff, true}, {holeTo - 1, true},
		{holeTo, false}, {holeTo + 1, false}, {1<<63 | holeTo, false}, {top - 8191, false}, {top, false},
	} {
		if is := Hole(c.va); is != c.want {
			t.Errorf("Hole(%#x) is %v", c.va, is)
		}
	}
}

func TestHoleEverywhere(t *testing.T) {
	for _, va := range addresses() {
		if is := Hole(va); is != (va >= holeFrom && va < holeTo) {
			t.Errorf("Hole(%#x) is %v", va, is)
		}
	}
}

// TestHoleEachHighBit turns one bit of the sign's, each in its turn.
func TestHoleEachHighBit(t *testing.T) {
	for i := 43; i < 64; i++ {
		for _, low := range []uint64{0, 1, 0x402000, holeFrom - 1} {
			if va := low | 1<<i; !Hole(va) {
				t.Errorf("Hole(%#x) is false", va)
			}
			if va := (holeTo | low) &^ (1 << i); !Hole(va) {
				t.Errorf("Hole(%#x) is false", va)
			}
		}
	}
}

func TestSizes(t *testing.T) {
	for size, want := range []struct {
		bits  int
		bytes uint64
	}{{13, 8192}, {16, 65536}, {19, 524288}, {22, 4194304}} {
		if !May(size) {
			t.Errorf("May(%d) is false", size)
		}
		if n := Bits(size); n != want.bits {
			t.Errorf("Bits(%d) is %d", size, n)
		}
		if n := Bytes(size); n != want.bytes {
			t.Errorf("Bytes(%d) is %d", size, n)
		}
	}
}

func TestWrongSizes(t *testing.T) {
	for _, size := range wrongSizes {
		if May(size) || Bits(size) != 0 || Bytes(size) != 0 {
			t.Errorf("size %d: May %v, Bits %d, Bytes %d", size, May(size), Bits(size), Bytes(size))
		}
		for _, va := range addresses() {
			if b, o := Base(va, size), Offset(va, size); b != 0 || o != 0 {
				t.Errorf("size %d, at %#x: Base %#x, Offset %#x", size, va, b, o)
			}
			if Starts(va, size) || In(va, va, size) || In(va, 0, size) || In(0, va, size) {
				t.Errorf("size %d, at %#x: Starts %v, In %v", size, va, Starts(va, size), In(va, va, size))
			}
		}
	}
}

func TestMeetOfWrongSizes(t *testing.T) {
	for _, wrong := range wrongSizes {
		for _, va := range []uint64{0, 8192, 0x12345, holeFrom, top} {
			for size := range bytes {
				if Meet(va, wrong, va, size) || Meet(va, size, va, wrong) {
					t.Errorf("%#x of size %d meets itself of size %d", va, wrong, size)
				}
			}
			for _, other := range wrongSizes {
				if Meet(va, wrong, va, other) {
					t.Errorf("%#x of size %d meets itself of size %d", va, wrong, other)
				}
			}
		}
	}
}

func TestBaseAndOffsetExamples(t *testing.T) {
	for _, c := range []struct {
		va           uint64
		size         int
		base, offset uint64
	}{
		{0x12345, 0, 0x12000, 0x345}, {0x12345, 1, 0x10000, 0x2345}, {0x12345, 2, 0, 0x12345}, {0x12345, 3, 0, 0x12345},
		{8191, 0, 0, 8191}, {8192, 0, 8192, 0}, {65535, 1, 0, 65535}, {65536, 1, 65536, 0},
		{524287, 2, 0, 524287}, {524288, 2, 524288, 0}, {4194303, 3, 0, 4194303}, {4194304, 3, 4194304, 0},
		{top, 0, 0xffffffffffffe000, 8191}, {top, 1, 0xffffffffffff0000, 65535}, {top, 2, 0xfffffffffff80000, 524287}, {top, 3, 0xffffffffffc00000, 4194303},
		{holeFrom - 1, 3, holeFrom - 4194304, 4194303}, {holeFrom + 5, 3, holeFrom, 5},
	} {
		if b, o := Base(c.va, c.size), Offset(c.va, c.size); b != c.base || o != c.offset {
			t.Errorf("%#x of size %d: Base %#x, Offset %#x", c.va, c.size, b, o)
		}
	}
}

func TestBaseOffsetStartsEverywhere(t *testing.T) {
	for _, va := range addresses() {
		for size, n := range bytes {
			if b := Base(va, size); b != va/n*n {
				t.Errorf("Base(%#x, %d) is %#x", va, size, b)
			}
			if o := Offset(va, size); o != va%n {
				t.Errorf("Offset(%#x, %d) is %#x", va, size, o)
			}
			if is := Starts(va, size); is != (va%n == 0) {
				t.Errorf("Starts(%#x, %d) is %v", va, size, is)
			}
		}
	}
}

func TestInExamples(t *testing.T) {
	for _, c := range []struct {
		va, base uint64
		size     int
		want     bool
	}{
		{0x10000, 0x10000, 1, true}, {0x1ffff, 0x10000, 1, true}, {0x20000, 0x10000, 1, false}, {0xffff, 0x10000, 1, false},
		{0x1ffff, 0x12345, 1, true}, {0x10000, 0x1ffff, 1, true}, {0x20000, 0x1ffff, 1, false},
		{0, 8191, 0, true}, {0, 8192, 0, false}, {0, 65535, 1, true}, {0, 65536, 1, false},
		{0, 524287, 2, true}, {0, 524288, 2, false}, {0, 4194303, 3, true}, {0, 4194304, 3, false},
		{top, top - 8191, 0, true}, {top, top - 8192, 0, false}, {top, 0, 3, false},
		{holeFrom - 1, holeFrom, 3, false}, {holeFrom, holeFrom + 4194303, 3, true}, {0x402000, holeFrom + 0x402000, 0, false},
	} {
		if is := In(c.va, c.base, c.size); is != c.want {
			t.Errorf("In(%#x, %#x, %d) is %v", c.va, c.base, c.size, is)
		}
	}
}

func TestInEverywhere(t *testing.T) {
	all := addresses()
	for _, base := range spots() {
		for size, n := range bytes {
			for _, va := range all {
				if is := In(va, base, size); is != (va/n == base/n) {
					t.Errorf("In(%#x, %#x, %d) is %v", va, base, size, is)
				}
			}
		}
	}
}

func TestMeetExamples(t *testing.T) {
	for _, c := range []struct {
		a     uint64
		sizeA int
		b     uint64
		sizeB int
		want  bool
	}{
		{0x12000, 0, 0x10000, 1, true}, {0x12000, 0, 0x14000, 0, false}, {0x12000, 0, 0x13fff, 0, true},
		{0x12345, 0, 0x1ffff, 1, true}, {0xffff, 0, 0x10000, 1, false}, {0x20000, 0, 0x10000, 1, false},
		{0, 3, 0x3fe000, 0, true}, {0, 3, 0x3f0000, 1, true}, {0, 3, 0x380000, 2, true}, {0, 3, 0x400000, 0, false}, {0, 3, 0x400000, 3, false},
		{top, 0, top, 3, true}, {top, 3, 0, 3, false}, {top, 0, 0, 0, false},
		{holeFrom - 1, 3, holeFrom, 0, false}, {holeTo, 0, holeTo - 1, 3, false}, {holeFrom, 0, holeFrom, 3, true},
	} {
		if is := Meet(c.a, c.sizeA, c.b, c.sizeB); is != c.want {
			t.Errorf("Meet(%#x, %d, %#x, %d) is %v", c.a, c.sizeA, c.b, c.sizeB, is)
		}
		if is := Meet(c.b, c.sizeB, c.a, c.sizeA); is != c.want {
			t.Errorf("Meet(%#x, %d, %#x, %d) is %v", c.b, c.sizeB, c.a, c.sizeA, is)
		}
	}
}

// bounds are the first and the last address of a page.
func bounds(va uint64, size int) (uint64, uint64) {
	n := bytes[size]
	return va / n * n, va/n*n + (n - 1)
}

// eachTwo goes through pairs of addresses and of sizes.
func eachTwo(do func(a uint64, sizeA int, b uint64, sizeB int)) {
	all := addresses()
	for _, a := range spots() {
		for _, b := range all {
			for sizeA := range bytes {
				for sizeB := range bytes {
					do(a, sizeA, b, sizeB)
				}
			}
		}
	}
}

// TestMeetEverywhere holds Meet against the pages' ends: two stretches have an address in common, if neither ends ahead of the other.
func TestMeetEverywhere(t *testing.T) {
	eachTwo(func(a uint64, sizeA int, b uint64, sizeB int) {
		firstA, lastA := bounds(a, sizeA)
		firstB, lastB := bounds(b, sizeB)
		want := firstA <= lastB && firstB <= lastA
		if is := Meet(a, sizeA, b, sizeB); is != want {
			t.Errorf("Meet(%#x, %d, %#x, %d) is %v", a, sizeA, b, sizeB, is)
		}
		if is := Meet(b, sizeB, a, sizeA); is != want {
			t.Errorf("Meet(%#x, %d, %#x, %d) is %v", b, sizeB, a, sizeA, is)
		}
	})
}

func TestTagExamples(t *testing.T) {
	for _, c := range []struct{ va, want uint64 }{
		{0, 0}, {0x3fffff, 0}, {0x400000, 1}, {0x7fffff, 1}, {0x800000, 2}, {0xfffff80000400000, 0x200001},
		{1 << 42, 1 << 20}, {1 << 43, 1 << 21}, {1 << 44, 0}, {1<<44 - 1, 1<<22 - 1}, {1 << 63, 0}, {top, 1<<22 - 1}, {holeTo, 1 << 21},
	} {
		if tag := Tag(c.va); tag != c.want {
			t.Errorf("Tag(%#x) is %#x", c.va, tag)
		}
	}
}

func TestTagEverywhere(t *testing.T) {
	for _, va := range addresses() {
		if tag := Tag(va); tag != va/4194304%4194304 {
			t.Errorf("Tag(%#x) is %#x", va, tag)
		}
	}
}

// P2.2

func TestNextExamples(t *testing.T) {
	for _, c := range []struct {
		va   uint64
		size int
		want uint64
		is   bool
	}{
		{0, 0, 8192, true}, {8191, 0, 8192, true}, {8192, 0, 16384, true}, {0x12345, 0, 0x14000, true}, {0x12345, 1, 0x20000, true}, {0x12345, 2, 0x80000, true}, {0x12345, 3, 0x400000, true},
		{holeFrom - 8193, 0, holeFrom - 8192, true}, {holeFrom - 8192, 0, 0, false}, {holeFrom - 1, 0, 0, false},
		{holeFrom - 4194305, 3, holeFrom - 4194304, true}, {holeFrom - 4194304, 3, 0, false}, {holeFrom - 1, 3, 0, false},
		{holeFrom - 8193, 1, 0, false}, {holeFrom - 8193, 2, 0, false}, {holeFrom - 8193, 3, 0, false},
		{holeFrom, 0, 0, false}, {1 << 62, 2, 0, false}, {holeTo - 8193, 0, 0, false},
		{holeTo - 1, 0, holeTo, true}, {holeTo - 8192, 0, holeTo, true}, {holeTo - 1, 3, holeTo, true},
		{holeTo, 0, holeTo + 8192, true}, {holeTo, 3, holeTo + 4194304, true},
		{top - 8192, 0, top - 8191, true}, {top - 8191, 0, 0, false}, {top, 0, 0, false},
		{top, 1, 0, false}, {top - 65535, 1, 0, false}, {top - 65536, 1, top - 65535, true}, {top, 2, 0, false}, {top, 3, 0, false}, {top - 4194303, 3, 0, false}, {top - 4194304, 3, top - 4194303, true},
	} {
		if next, is := Next(c.va, c.size); next != c.want || is != c.is {
			t.Errorf("Next(%#x, %d) is %#x, %v", c.va, c.size, next, is)
		}
	}
}

func TestNextEverywhere(t *testing.T) {
	for _, va := range addresses() {
		for size, n := range bytes {
			_, last := bounds(va, size)
			want, wantIs := uint64(0), false
			if last != top && (last+1 < holeFrom || last+1 >= holeTo) {
				want, wantIs = va/n*n+n, true
			}
			if next, is := Next(va, size); next != want || is != wantIs {
				t.Errorf("Next(%#x, %d) is %#x, %v", va, size, next, is)
			}
		}
	}
}

func TestNextOfWrongSizes(t *testing.T) {
	for _, size := range wrongSizes {
		for _, va := range addresses() {
			if next, is := Next(va, size); next != 0 || is {
				t.Errorf("Next(%#x, %d) is %#x, %v", va, size, next, is)
			}
		}
	}
}

// P2.3

// repeat is pairs of a size and how often it stands.
func repeat(pairs ...[2]int) []int {
	var l []int
	for _, p := range pairs {
		l = append(l, slices.Repeat([]int{p[0]}, p[1])...)
	}
	return l
}

func TestCoverExamples(t *testing.T) {
	for _, c := range []struct {
		from, to uint64
		want     []int
	}{
		{0, 65536 + 2*8192, []int{1, 0, 0}},
		{0xe000, 0x32000, []int{0, 1, 1, 0}},
		{0, 8192, []int{0}}, {0, 65536, []int{1}}, {0, 524288, []int{2}}, {0, 4194304, []int{3}},
		{0, 65536 - 8192, repeat([2]int{0, 7})}, {0, 524288 - 65536, repeat([2]int{1, 7})}, {0, 4194304 - 524288, repeat([2]int{2, 7})},
		{8192, 65536 + 8192, repeat([2]int{0, 8})},
		{8192, 4194304 + 8192, repeat([2]int{0, 7}, [2]int{1, 7}, [2]int{2, 7}, [2]int{0, 1})},
		{8192, 2*4194304 + 8192, repeat([2]int{0, 7}, [2]int{1, 7}, [2]int{2, 7}, [2]int{3, 1}, [2]int{0, 1})},
		{65536, 4194304, repeat([2]int{1, 7}, [2]int{2, 7})},
		{0, 2*4194304 + 524288 + 65536 + 8192, []int{3, 3, 2, 1, 0}},
		{top - 4194303, top - 8191, repeat([2]int{2, 7}, [2]int{1, 7}, [2]int{0, 7})},
		{top - 16383, top - 8191, []int{0}},
		{holeFrom - 8192, holeFrom + 8192, []int{0, 0}}, {holeTo - 65536, holeTo + 4194304, []int{1, 3}},
	} {
		if l := Cover(c.from, c.to); !slices.Equal(l, c.want) {
			t.Errorf("Cover(%#x, %#x) is %v", c.from, c.to, l)
		}
	}
}

func TestCoverOfAThousand(t *testing.T) {
	for _, c := range []struct {
		from, to uint64
		want     []int
	}{
		{0, 999 * 4194304, repeat([2]int{3, 999})},
		{0, 1000 * 4194304, repeat([2]int{3, 1000})},
		{0, 1001 * 4194304, nil},
		{0, 999*4194304 + 8192, repeat([2]int{3, 999}, [2]int{0, 1})},
		{0, 999*4194304 + 65536, repeat([2]int{3, 999}, [2]int{1, 1})},
		{0, 999*4194304 + 65536 + 8192, nil},
		{0, 1000*4194304 + 8192, nil},
		{4194304 - 8192, 1000 * 4194304, repeat([2]int{0, 1}, [2]int{3, 999})},
		{4194304 - 8192, 1000*4194304 + 8192, nil},
		{4194304 - 16384, 1000 * 4194304, nil},
		{holeFrom, holeFrom + 1000*4194304, repeat([2]int{3, 1000})},
		{top - 1001*4194304 + 1, top - 4194304 + 1, repeat([2]int{3, 1000})},
		{top - 1001*4194304 + 1, top - 4194304 + 8193, nil},
		{0, 5000 * 4194304, nil}, {0, holeFrom, nil}, {0, top - 8191, nil}, {8192, top - 8191, nil},
	} {
		if l := Cover(c.from, c.to); !slices.Equal(l, c.want) {
			t.Errorf("Cover(%#x, %#x) is %d pages, not %d", c.from, c.to, len(l), len(c.want))
		}
	}
}

func TestCoverRefuses(t *testing.T) {
	for _, c := range []struct{ from, to uint64 }{
		{0, 0}, {8192, 8192}, {8192, 0}, {65536, 8192}, {1 << 63, 0}, {top - 8191, 0}, {top - 8191, top - 8191}, {holeTo, holeFrom},
		{1, 8192}, {8191, 65536}, {8193, 65536}, {4096, 8192}, {0, 1}, {0, 8191}, {0, 8193}, {0, 12288}, {1, 8193}, {4096, 12288}, {1, 1}, {1, 0}, {0, top}, {top - 8191, top}, {top, top},
	} {
		if l := Cover(c.from, c.to); len(l) != 0 {
			t.Errorf("Cover(%#x, %#x) is %v", c.from, c.to, l)
		}
	}
}

// fewest is how many pages cover what lies between two places (in pages of size 0) at the least, found by trying all: least[i] is how many do from the place i on.
func fewest(from, to uint64) int {
	least := make([]int, to-from+1)
	for at := int(to-from) - 1; at >= 0; at-- {
		least[at] = math.MaxInt
		for _, n := range bytes {
			n /= 8192
			if (from+uint64(at))%n == 0 && uint64(at)+n <= to-from {
				least[at] = min(least[at], 1+least[at+int(n)])
			}
		}
	}
	return least[0]
}

// checkCover asserts that a cover's pages lie one behind the other, that none could be greater, and that no fewer would do.
func checkCover(t *testing.T, from, to uint64) {
	t.Helper()
	sizes, at := Cover(from, to), from
	for i, size := range sizes {
		for greater, n := range bytes {
			if is := at%n == 0 && n <= to-at; greater == size && !is || greater > size && is {
				t.Errorf("Cover(%#x, %#x) is %v: wrong at %d", from, to, sizes, i)
				return
			}
		}
		at += bytes[size]
	}
	if at != to || len(sizes) != fewest(from/8192, to/8192) {
		t.Errorf("Cover(%#x, %#x) is %v: it ends at %#x", from, to, sizes, at)
	}
}

func TestCoverIsTheFewest(t *testing.T) {
	for _, origin := range []uint64{0, holeFrom - 2*4194304, top - 4*4194304 + 1} {
		for _, from := range []uint64{0, 1, 2, 7, 8, 9, 63, 64, 65, 100, 448, 504, 511, 512, 513, 777} {
			for to := from + 1; to <= from+1100; to += 1 + to%7 {
				checkCover(t, origin+from*8192, origin+to*8192)
			}
		}
	}
}

// TestCoverIsNew asserts that what is done to an answer is not seen in another one (R4).
func TestCoverIsNew(t *testing.T) {
	first := Cover(0, 65536+8192)
	first[0], first[1] = 9, 9
	if second := Cover(0, 65536+8192); !slices.Equal(second, []int{1, 0}) {
		t.Errorf("Cover is %v", second)
	}
}

// P2.4

// TestMeetingPagesLieInOneAnother holds by the package's own calls: where pages meet, the less one's first and last addresses are in the greater one; where they do not, neither's are in the other.
func TestMeetingPagesLieInOneAnother(t *testing.T) {
	eachTwo(func(a uint64, sizeA int, b uint64, sizeB int) {
		aInB := liesIn(a, sizeA, b, sizeB)
		bInA := liesIn(b, sizeB, a, sizeA)
		if is := Meet(a, sizeA, b, sizeB); is != (aInB || bInA) {
			t.Errorf("Meet(%#x, %d, %#x, %d) is %v, but they lie in one another: %v, %v", a, sizeA, b, sizeB, is, aInB, bInA)
		}
		if Meet(a, sizeA, b, sizeB) && (sizeA <= sizeB && !aInB || sizeB <= sizeA && !bInA) {
			t.Errorf("%#x of size %d and %#x of size %d meet, and the less one is not in the greater one", a, sizeA, b, sizeB)
		}
	})
}

// liesIn tells whether all of a page is in another one; of a greater one in a less one it is never.
func liesIn(va uint64, size int, base uint64, baseSize int) bool {
	first := Base(va, size)
	last := first + (Bytes(size) - 1)
	return size <= baseSize && In(first, base, baseSize) && In(last, base, baseSize)
}
