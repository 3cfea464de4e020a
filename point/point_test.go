package point

import (
	"math"
	"math/big"
	"math/rand"
	"testing"
)

const top = ^uint64(0)

// bytes are the pages' bytes, written out.
var bytes = []uint64{8192, 65536, 524288, 4194304}

// entries are how many entries there are of each N, written out.
var entries = []uint64{512, 1024, 2048, 4096, 8192, 16384, 32768, 65536}

// unknown are the sizes that no pointer is of; some of them are one that it is of, modulo a power of 2.
var unknown = []int{math.MinInt, math.MinInt + 1, -1 << 62, -1 << 32, -1<<32 + 1, -8, -7, -4, -3, -2, -1, 2, 3, 4, 5, 8, 64, 1 << 32, 1<<32 + 1, 1 << 62, math.MaxInt - 1, math.MaxInt}

// power is 2 to the i, by doubling.
func power(i int) uint64 {
	v := uint64(1)
	for range i {
		v *= 2
	}
	return v
}

// words are none, each single bit, all, all but one, all above one, all below one, and others.
func words() []uint64 {
	l := []uint64{0, top, 0x5555555555555555, 0xaaaaaaaaaaaaaaaa, 0x0123456789abcdef, 0xfedcba9876543210, 0x402005, 0x13000, 0xffff000000013001}
	for i := range 64 {
		l = append(l, power(i), top-power(i), top-power(i)+1, power(i)-1)
	}
	return l
}

// registers are words, with each N, split and not split.
func registers() []uint64 {
	var l []uint64
	for _, w := range words() {
		for n := range uint64(8) {
			for split := range uint64(2) {
				l = append(l, w-w%8192+w/8%512*8+n+split*4096)
			}
		}
	}
	return append(l, words()...)
}

// count is E of a register, by its least three bits' number.
func count(tsb uint64) uint64 { return entries[tsb%8] }

// split is whether a register's bit 12 is 1.
func split(tsb uint64) bool { return tsb/4096%2 == 1 }

// span is of how many bytes a register's beginning is a multiple.
func span(tsb uint64) uint64 {
	if split(tsb) {
		return 32 * count(tsb)
	}
	return 16 * count(tsb)
}

// begins is a register's beginning.
func begins(tsb uint64) uint64 { return tsb - tsb%span(tsb) }

// want is a pointer, as the chapter's words add it up.
func want(tsb, access uint64, size int) uint64 {
	p := begins(tsb) + 16*(access/bytes[size]%count(tsb))
	if size == 1 && split(tsb) {
		p += 16 * count(tsb)
	}
	return p
}

// pointer is Pointer of a size that it knows.
func pointer(t *testing.T, tsb, access uint64, size int) uint64 {
	t.Helper()
	p, is := Pointer(tsb, access, size)
	if !is {
		t.Errorf("Pointer(%#x, %#x, %d): there is none", tsb, access, size)
	}
	return p
}

// P8.1

func TestEntries(t *testing.T) {
	for n, want := range entries {
		for _, w := range words() {
			tsb := w - w%8 + uint64(n)
			if e := Entries(tsb); e != int(want) {
				t.Errorf("Entries(%#x) is %d", tsb, e)
			}
		}
	}
}

// TestEntriesOfEachBit: the three least bits alone tell of it.
func TestEntriesOfEachBit(t *testing.T) {
	for i := range 64 {
		want := 512
		if i < 3 {
			want = []int{1024, 2048, 8192}[i]
		}
		if e := Entries(power(i)); e != want {
			t.Errorf("Entries of the bit %d is %d", i, e)
		}
	}
	if e := Entries(top); e != 65536 {
		t.Errorf("Entries of all is %d", e)
	}
}

func TestSplit(t *testing.T) {
	for i := range 64 {
		if is := Split(power(i)); is != (i == 12) {
			t.Errorf("Split of the bit %d is %v", i, is)
		}
		if is := Split(top - power(i)); is != (i != 12) {
			t.Errorf("Split of all but the bit %d is %v", i, is)
		}
	}
	if Split(0) || !Split(top) {
		t.Errorf("Split of none is %v, of all %v", Split(0), Split(top))
	}
}

func TestPointerOrdinary(t *testing.T) {
	for _, c := range []struct {
		tsb, access uint64
		size        int
		want        uint64
	}{
		{0, 3 * 8192, 0, 48},   // the chapter's example
		{0, 3*8192 + 5, 0, 48}, // a context's number beside it
		{0, 3 * 8192, 1, 0},    // the page of the size 1 has the number 0
		{0, 3 * 65536, 1, 48},
		{0x1000, 3 * 65536, 0, 24 * 16},     // split: the size 0 stands ahead
		{0x1000, 3 * 65536, 1, 0x2000 + 48}, // and the size 1 behind
		{0x2000, 0, 0, 0x2000},              // not split: 16 times 512 is the least beginning
		{0x3000, 0, 0, 0},                   // split: 32 times 512 is
		{0x3000, 0, 1, 0x2000},
		{0x5000, 0, 0, 0x4000},
		{0x5000, 511 * 8192, 0, 0x4000 + 511*16},  // the last one of the first half
		{0x5000, 511 * 65536, 1, 0x6000 + 511*16}, // the last one of all
		{0x100007, 65535 * 8192, 0, 0x100000 + 65535*16},
		{0x301007, 65535 * 65536, 1, 0x200000 + 0x100000 + 65535*16},
		{0xfff, 8192, 0, 16}, // bits that tell nothing
		{0xff8, 8192, 0, 16},
		{0x2ff8, 8192, 1, 0x2000},
		{0x123456789abcd000, 0x402005, 0, 0x123456789abcc010},
		{0x123456789abcd000, 0x402005, 1, 0x123456789abce400},
		{top - 0xfff, 512 * 8192, 0, top - 0x3fff}, // split, at the end of all words: the beginning
		{top - 0xfff, 511 * 65536, 1, top - 15},    // and the last entry
		{top - 0x1fff, 511 * 8192, 0, top - 15},    // not split
		{top - 0x1fff, 512 * 65536, 1, top - 0x1fff},
		{top, top, 0, top - 0x100000 - 15},
		{top, top, 1, top - 15},
		{top, 0, 0, top - 0x1fffff},
		{top, 0, 1, top - 0xfffff},
		{top - 4096, 0, 0, top - 0xfffff},
		{top - 4096, top, 1, top - 15},
	} {
		if p := pointer(t, c.tsb, c.access, c.size); p != c.want {
			t.Errorf("Pointer(%#x, %#x, %d) is %#x, not %#x", c.tsb, c.access, c.size, p, c.want)
		}
	}
}

func TestPointerOfEachRegister(t *testing.T) {
	for _, tsb := range registers() {
		for _, access := range words() {
			for size := range 2 {
				if p := pointer(t, tsb, access, size); p != want(tsb, access, size) {
					t.Errorf("Pointer(%#x, %#x, %d) is %#x, not %#x", tsb, access, size, p, want(tsb, access, size))
				}
			}
		}
	}
}

// TestPointerRounds: pages' numbers go round at E.
func TestPointerRounds(t *testing.T) {
	for _, tsb := range registers() {
		e := count(tsb)
		for size, b := range bytes[:2] {
			first := pointer(t, tsb, 0, size)
			for _, c := range []struct{ number, place uint64 }{
				{0, 0}, {1, 1}, {e / 2, e / 2}, {e - 1, e - 1}, {e, 0}, {e + 1, 1}, {2*e - 1, e - 1}, {2 * e, 0}, {7*e + 5, 5}, {top/b - e + 1, 0}, {top / b, e - 1},
			} {
				for _, low := range []uint64{0, 1, 5, b - 1} {
					if p := pointer(t, tsb, c.number*b+low, size); p != first+16*c.place {
						t.Errorf("Pointer(%#x, ..) of the page %d of the size %d is %#x, of the page 0 %#x", tsb, c.number, size, p, first)
					}
				}
			}
		}
	}
}

// TestPointerHalves: the size 1 stands behind the size 0 where the register is split, else among it.
func TestPointerHalves(t *testing.T) {
	for _, tsb := range registers() {
		for _, number := range []uint64{0, 1, 100, count(tsb) - 1, count(tsb)} {
			zero, one := pointer(t, tsb, number*8192, 0), pointer(t, tsb, number*65536, 1)
			behind := uint64(0)
			if split(tsb) {
				behind = 16 * count(tsb)
			}
			if one-zero != behind {
				t.Errorf("of %#x the page %d of the size 0 stands at %#x, of 1 at %#x", tsb, number, zero, one)
			}
		}
	}
}

// TestPointerBeginning: what the register has below its beginning moves nothing, each bit of the beginning is told.
func TestPointerBeginning(t *testing.T) {
	for n, e := range entries {
		for s := range uint64(2) {
			least := uint64(n) + 4096*s
			size := span(least)
			if size != 16*e*(s+1) {
				t.Fatalf("span of %#x: %#x", least, size)
			}
			for i := range 64 {
				tsb := least
				if i > 2 && i != 12 {
					tsb += power(i)
				}
				for of := range 2 {
					moved := uint64(0)
					if power(i) >= size {
						moved = power(i)
					}
					if p := pointer(t, tsb, 77*bytes[of], of); p-moved != pointer(t, least, 77*bytes[of], of) {
						t.Errorf("the bit %d beside %#x, of the size %d: %#x", i, least, of, p)
					}
				}
			}
		}
	}
}

// TestPointerWrongSizes: of no other size is there one.
func TestPointerWrongSizes(t *testing.T) {
	for _, size := range unknown {
		for _, tsb := range words() {
			for _, access := range []uint64{0, 8192, 0x402005, top} {
				if p, is := Pointer(tsb, access, size); p != 0 || is {
					t.Errorf("Pointer(%#x, %#x, %d) is %#x, %v", tsb, access, size, p, is)
				}
			}
		}
	}
}

// P8.2

// counts are how many places there may be: 1, what a TSB has, powers of 2 and none, and great ones.
var counts = []int{1, 2, 3, 4, 5, 7, 8, 10, 16, 64, 100, 511, 512, 513, 1000, 1024, 4096, 65535, 65536, 1<<31 - 1, 1<<32 + 1, 1<<51 - 1, 1 << 51, 1<<51 + 1, 1<<62 - 1, 1 << 62, math.MaxInt - 1, math.MaxInt}

func TestIndexOrdinary(t *testing.T) {
	for _, c := range []struct {
		va      uint64
		size, n int
		want    int
	}{
		{0, 0, 1, 0}, {8191, 0, 512, 0}, {8192, 0, 512, 1}, {511 * 8192, 0, 512, 511}, {512*8192 - 1, 0, 512, 511}, {512 * 8192, 0, 512, 0}, {513 * 8192, 0, 512, 1},
		{65535, 1, 64, 0}, {65536, 1, 64, 1}, {64 * 65536, 1, 64, 0}, {524287, 2, 8, 0}, {524288, 2, 8, 1}, {9 * 524288, 2, 8, 1}, {4194303, 3, 2, 0}, {4194304, 3, 2, 1}, {8388608, 3, 2, 0},
		{22 * 8192, 0, 7, 1}, {22 * 65536, 1, 7, 1}, {22 * 524288, 2, 7, 1}, {22 * 4194304, 3, 7, 1},
		{top, 0, 1, 0}, {top, 0, 512, 511}, {top, 1, 64, 63}, {top, 2, 8, 7}, {top, 3, 1, 0}, {top, 3, 2, 1},
		{top, 0, math.MaxInt, 1<<51 - 1}, {top, 0, 1<<51 - 1, 0}, {top, 0, 1<<51 - 2, 1}, {top, 3, math.MaxInt, 1<<42 - 1},
		{top, 0, 3, 1}, // 2^51 - 1 is 1 more than a multiple of 3
		{0xfffff80000000000, 0, 1000, 424},
	} {
		if i := Index(c.va, c.size, c.n); i != c.want {
			t.Errorf("Index(%#x, %d, %d) is %d, not %d", c.va, c.size, c.n, i, c.want)
		}
	}
}

// rest is the place of an address's page among so many, in numbers without an end.
func rest(va uint64, size, n int) *big.Int {
	number := new(big.Int).Div(new(big.Int).SetUint64(va), new(big.Int).SetUint64(bytes[size]))
	return number.Mod(number, big.NewInt(int64(n)))
}

// modulo is a number as a word.
func modulo(v *big.Int) uint64 {
	end := new(big.Int).Lsh(big.NewInt(1), 64)
	return new(big.Int).Mod(v, end).Uint64()
}

func TestIndexEverywhere(t *testing.T) {
	for _, va := range words() {
		for size := range bytes {
			for _, n := range counts {
				i := Index(va, size, n)
				if i < 0 || i >= n || rest(va, size, n).Cmp(big.NewInt(int64(i))) != 0 {
					t.Errorf("Index(%#x, %d, %d) is %d, not %v", va, size, n, i, rest(va, size, n))
				}
			}
		}
	}
}

// TestIndexOfNothing: what the chapter leaves out ends, and does not panic.
func TestIndexOfNothing(t *testing.T) {
	for _, n := range []int{math.MinInt, -512, -1, 0} {
		for size := range bytes {
			if i := Index(0x402000, size, n); i != 0 {
				t.Errorf("Index of %d places is %d", n, i)
			}
			if p := Slot(0x100, n, 0x402000, size); p != 0x100 {
				t.Errorf("Slot of %d places is %#x", n, p)
			}
		}
		if i := Around(5, n); i != 0 {
			t.Errorf("Around %d is %d", n, i)
		}
	}
	for _, size := range []int{math.MinInt, -1, 4, 5, 1 << 32, math.MaxInt} {
		if i := Index(0x402000, size, 512); i != 0 {
			t.Errorf("Index of the size %d is %d", size, i)
		}
		if p := Slot(0x100, 512, 0x402000, size); p != 0x100 {
			t.Errorf("Slot of the size %d is %#x", size, p)
		}
	}
}

func TestSlotOrdinary(t *testing.T) {
	for _, c := range []struct {
		base uint64
		n    int
		va   uint64
		size int
		want uint64
	}{
		{0, 512, 0, 0, 0}, {0, 512, 8192, 0, 16}, {0x1000, 512, 511 * 8192, 0, 0x1000 + 511*16}, {0x1000, 512, 512 * 8192, 0, 0x1000},
		{0x10, 64, 65 * 65536, 1, 0x20}, {0x10, 8, 7 * 524288, 2, 0x80}, {0x10, 1, 7 * 4194304, 3, 0x10}, {0x10, 7, 22 * 4194304, 3, 0x20},
		{5, 512, 8192, 0, 21},       // a base need not be a multiple of 16
		{top - 15, 512, 8192, 0, 0}, // the sum goes beyond all words
		{top, 512, 8192, 0, 15},
		{top - 15, 512, 0, 0, top - 15},
		{top - 16*511, 512, top, 0, top},
		{top - 16*511 + 1, 512, top, 0, 0},
		{0, math.MaxInt, top, 0, 16*1<<51 - 16},
	} {
		if p := Slot(c.base, c.n, c.va, c.size); p != c.want {
			t.Errorf("Slot(%#x, %d, %#x, %d) is %#x, not %#x", c.base, c.n, c.va, c.size, p, c.want)
		}
	}
}

func TestSlotEverywhere(t *testing.T) {
	for _, base := range words() {
		for _, va := range []uint64{0, 1, 8191, 8192, 0x402005, 0x12345678, 1<<43 - 1, 0xfffff80000000000, top} {
			for size := range bytes {
				for _, n := range counts {
					sum := new(big.Int).Mul(big.NewInt(16), rest(va, size, n))
					sum.Add(sum, new(big.Int).SetUint64(base))
					if p := Slot(base, n, va, size); p != modulo(sum) {
						t.Errorf("Slot(%#x, %d, %#x, %d) is %#x, not %#x", base, n, va, size, p, modulo(sum))
					}
				}
			}
		}
	}
}

func TestLastOrdinary(t *testing.T) {
	for _, c := range []struct {
		base uint64
		n    int
		want uint64
	}{
		{0, 1, 0}, {0x130, 1, 0x130}, {top, 1, top}, {0, 2, 16}, {0x100, 4, 0x130}, {5, 3, 37}, {0, 512, 8176}, {0x2000, 513, 0x4000},
		{top - 15, 2, 0}, {top, 2, 15}, {top - 16*511, 512, top}, {top - 16*511 + 1, 512, 0}, {0, 1 << 60, top - 15}, {0, 1<<60 + 1, 0}, {1, math.MaxInt, top - 30},
	} {
		if p := Last(c.base, c.n); p != c.want {
			t.Errorf("Last(%#x, %d) is %#x, not %#x", c.base, c.n, p, c.want)
		}
	}
}

func TestLastEverywhere(t *testing.T) {
	for _, base := range words() {
		for _, n := range counts {
			sum := new(big.Int).Mul(big.NewInt(16), big.NewInt(int64(n)-1))
			sum.Add(sum, new(big.Int).SetUint64(base))
			if p := Last(base, n); p != modulo(sum) {
				t.Errorf("Last(%#x, %d) is %#x, not %#x", base, n, p, modulo(sum))
			}
		}
	}
}

// TestLastIsASlot: the last one is the slot of the last page, and there is none behind it.
func TestLastIsASlot(t *testing.T) {
	for _, base := range words() {
		for size, b := range bytes {
			for _, n := range []int{1, 2, 3, 64, 100, 512, 4096} {
				last := Last(base, n)
				for _, round := range []uint64{0, 1, 7} {
					if p := Slot(base, n, (round*uint64(n)+uint64(n)-1)*b, size); p != last {
						t.Errorf("Last(%#x, %d) is %#x, the last page's slot of the size %d %#x", base, n, last, size, p)
					}
				}
			}
		}
	}
}

func TestAroundOrdinary(t *testing.T) {
	for _, c := range []struct{ i, n, want int }{
		{0, 1, 0}, {1, 1, 0}, {-1, 1, 0}, {math.MaxInt, 1, 0}, {math.MinInt, 1, 0},
		{0, 5, 0}, {4, 5, 4}, {5, 5, 0}, {6, 5, 1}, {12, 5, 2}, {-1, 5, 4}, {-4, 5, 1}, {-5, 5, 0}, {-6, 5, 4}, {-10, 5, 0}, {-11, 5, 4},
		{math.MaxInt, 10, 7}, {math.MinInt, 10, 2}, {math.MinInt, 2, 0}, {math.MinInt + 1, 2, 1},
		{math.MaxInt, math.MaxInt, 0}, {math.MaxInt - 1, math.MaxInt, math.MaxInt - 1}, {-1, math.MaxInt, math.MaxInt - 1},
		{math.MinInt, math.MaxInt, math.MaxInt - 1}, {math.MinInt + 1, math.MaxInt, 0}, {math.MinInt + 2, math.MaxInt, 1}, {math.MinInt, math.MaxInt - 1, math.MaxInt - 3}, {math.MinInt, 1 << 62, 0},
	} {
		if r := Around(c.i, c.n); r != c.want {
			t.Errorf("Around(%d, %d) is %d, not %d", c.i, c.n, r, c.want)
		}
	}
}

// ints are numbers below 0, around it, and far above.
func ints() []int {
	var l []int
	for _, w := range words() {
		l = append(l, int(w))
	}
	return l
}

func TestAroundEverywhere(t *testing.T) {
	for _, n := range counts {
		near := []int{0, 1, -1, n, n - 1, -n, -n - 1, -n + 1, -(n - 1) * 2, math.MaxInt, math.MinInt}
		for _, i := range append(near, ints()...) {
			left := new(big.Int).Mod(big.NewInt(int64(i)), big.NewInt(int64(n)))
			if r := Around(i, n); r < 0 || r >= n || int64(r) != left.Int64() {
				t.Errorf("Around(%d, %d) is %d, not %v", i, n, r, left)
			}
		}
	}
}

// TestAroundSteps goes up one by one: what follows n less 1 is 0.
func TestAroundSteps(t *testing.T) {
	for _, n := range []int{1, 2, 3, 5, 64} {
		at := 0
		for i := -3 * n; i <= 3*n; i++ {
			if r := Around(i, n); r != at {
				t.Errorf("Around(%d, %d) is %d, not %d", i, n, r, at)
			}
			if at++; at == n {
				at = 0
			}
		}
	}
}

// P8.3

// check asserts of one pointer that it is among the register's entries, in its half, and stands at a multiple of 16.
func check(t *testing.T, tsb, access uint64, size int) {
	t.Helper()
	p := pointer(t, tsb, access, size)
	from, bytes := begins(tsb), 16*count(tsb)
	if split(tsb) && size == 1 {
		from += bytes
	}
	// Held by how far it is from there: the end may be the end of all words.
	if p%16 != 0 || p-from >= bytes {
		t.Errorf("Pointer(%#x, %#x, %d) is %#x: not among the %#x bytes from %#x on", tsb, access, size, p, bytes, from)
	}
}

func TestPointerIsAmongEntries(t *testing.T) {
	for _, tsb := range registers() {
		for _, access := range []uint64{0, 1, 8191, 8192, 65535, 65536, 0x402005, 511 * 8192, 512 * 8192, 511 * 65536, 1<<43 - 1, 1 << 43, 0x0123456789abcdef, top - 65536, top} {
			check(t, tsb, access, 0)
			check(t, tsb, access, 1)
		}
	}
}

// TestPointerOfOnePage: all addresses of a page have one pointer, those of the page behind have another one.
func TestPointerOfOnePage(t *testing.T) {
	for _, tsb := range registers() {
		for size, b := range bytes[:2] {
			for _, base := range []uint64{0, b, 5 * b, 511 * b, 1<<43 - b, 1 << 43, top - 2*b + 1} {
				one := pointer(t, tsb, base, size)
				for _, low := range []uint64{1, 5, 15, 16, 4095, b / 2, b - 2, b - 1} {
					if p := pointer(t, tsb, base+low, size); p != one {
						t.Errorf("of %#x, size %d: the page %#x has %#x, at %#x %#x", tsb, size, base, one, low, p)
					}
				}
				if pointer(t, tsb, base+b, size) == one {
					t.Errorf("of %#x, size %d: the pages %#x and the one behind have %#x", tsb, size, base, one)
				}
			}
		}
	}
}

// TestPointerReachesEach: E pages, one behind the other, have all the entries, each one.
func TestPointerReachesEach(t *testing.T) {
	for _, tsb := range []uint64{0, 0x1000, 0x7ffff000, 0xabc0001, 0xabc1002, 0xfffffffffff01003, top - 3} {
		for size, b := range bytes[:2] {
			seen := map[uint64]bool{}
			for i := range count(tsb) {
				check(t, tsb, i*b, size)
				seen[pointer(t, tsb, i*b, size)] = true
			}
			if uint64(len(seen)) != count(tsb) {
				t.Errorf("of %#x, size %d: %d pointers", tsb, size, len(seen))
			}
		}
	}
}

// TestIndexOfOnePage: an address's place is its page's, in Slot too.
func TestIndexOfOnePage(t *testing.T) {
	for size, b := range bytes {
		for _, base := range []uint64{0, b, 5 * b, 1<<43 - b, top - b + 1} {
			for _, n := range counts {
				for _, low := range []uint64{1, 4095, b / 2, b - 1} {
					if Index(base+low, size, n) != Index(base, size, n) || Slot(16, n, base+low, size) != Slot(16, n, base, size) {
						t.Errorf("size %d, %d places: %#x of the page %#x", size, n, low, base)
					}
				}
			}
		}
	}
}

// TestPointerIsASlot: among the entries of a half, a pointer is the Slot of its address.
func TestPointerIsASlot(t *testing.T) {
	x := rand.New(rand.NewSource(8))
	for range 20000 {
		tsb, access, size := x.Uint64(), x.Uint64(), x.Intn(2)
		from := begins(tsb)
		if split(tsb) && size == 1 {
			from += 16 * count(tsb)
		}
		p := pointer(t, tsb, access, size)
		if p != want(tsb, access, size) || p != Slot(from, Entries(tsb), access, size) {
			t.Errorf("Pointer(%#x, %#x, %d) is %#x", tsb, access, size, p)
		}
		check(t, tsb, access, size)
	}
}
