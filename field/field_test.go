package field

import (
	"fmt"
	"math"
	"strings"
	"testing"
)

const all = ^uint64(0)

// words are ordinary ones and the edges: none, one and all bits, the lowest and the highest, every other one.
var words = []uint64{0, 1, 2, 0xabcd, 0xdeadbeef, 1 << 31, 1 << 32, 1 << 63, 1<<63 | 1, 1<<63 - 1, all - 1, all,
	0x5555555555555555, 0xaaaaaaaaaaaaaaaa, 0x0123456789abcdef, 0xfedcba9876543210}

// numbers are places and sizes: all of a word's, some outside, and those whose sum wraps round.
func numbers() []int {
	l := []int{math.MinInt, math.MinInt + 1, -1 << 32, -64, math.MaxInt - 63, math.MaxInt - 1, math.MaxInt, 1 << 32, 128}
	for i := -3; i <= 67; i++ {
		l = append(l, i)
	}
	return l
}

// there tells whether a field is, bit by bit: it has one, and all of them are a word's.
func there(place, size int) bool {
	if place < 0 || place > 63 || size < 1 || size > 64 {
		return false
	}
	for i := range size {
		if place+i > 63 {
			return false
		}
	}
	return true
}

// bit is the bit i of w by halving, with none of the package's calls.
func bit(w uint64, i int) uint64 {
	for range i {
		w /= 2
	}
	return w % 2
}

// power is 2 to the i.
func power(i int) uint64 {
	v := uint64(1)
	for range i {
		v *= 2
	}
	return v
}

// got, laid and masked say bit by bit what Get, Put and Mask must tell of a field that is.
func got(w uint64, place, size int) uint64 {
	v := uint64(0)
	for i := range size {
		v += bit(w, place+i) * power(i)
	}
	return v
}

func laid(w uint64, place, size int, v uint64) uint64 {
	u := uint64(0)
	for i := range 64 {
		if i >= place && i-place < size {
			u += bit(v, i-place) * power(i)
		} else {
			u += bit(w, i) * power(i)
		}
	}
	return u
}

func masked(place, size int) uint64 {
	u := uint64(0)
	for i := range size {
		u += power(place + i)
	}
	return u
}

// P1.1

func TestMayEdges(t *testing.T) {
	for _, c := range []struct {
		place, size int
		want        bool
	}{
		{0, 1, true}, {0, 63, true}, {0, 64, true}, {1, 63, true}, {63, 1, true}, {32, 32, true},
		{0, 0, false}, {0, 65, false}, {1, 64, false}, {63, 2, false}, {64, 0, false}, {64, 1, false}, {65, -1, false},
		{-1, 1, false}, {-1, 65, false}, {1, -1, false}, {63, 0, false}, {64, 64, false},
		{math.MaxInt, 1, false}, {1, math.MaxInt, false}, {math.MaxInt, math.MaxInt, false},
		{math.MinInt, 1, false}, {0, math.MinInt, false}, {math.MinInt, math.MinInt, false}, {math.MinInt, math.MaxInt, false}, {math.MaxInt, math.MinInt, false},
	} {
		if is := May(c.place, c.size); is != c.want {
			t.Errorf("May(%d, %d) is %v", c.place, c.size, is)
		}
	}
}

func TestMayEverywhere(t *testing.T) {
	for _, place := range numbers() {
		for _, size := range numbers() {
			if is := May(place, size); is != there(place, size) {
				t.Errorf("May(%d, %d) is %v", place, size, is)
			}
		}
	}
}

func TestFieldExamples(t *testing.T) {
	for _, c := range []struct {
		w           uint64
		place, size int
		v, get, put uint64
	}{
		{0, 4, 4, 10, 0, 160},
		{0xabcd, 4, 8, 0xff, 0xbc, 0xaffd},
		{0xabcd, 4, 8, 0, 0xbc, 0xa00d},
		{0xabcd, 4, 8, 0x123, 0xbc, 0xa23d},
		{0xabcd, 0, 64, 5, 0xabcd, 5},
		{all, 0, 64, 0, all, 0},
		{0, 0, 64, all, 0, all},
		{all, 0, 63, 0, all >> 1, 1 << 63},
		{all, 1, 63, 0, all >> 1, 1},
		{all, 63, 1, 0, 1, all >> 1},
		{0, 63, 1, all, 0, 1 << 63},
		{all, 0, 1, 2, 1, all - 1},
	} {
		if v := Get(c.w, c.place, c.size); v != c.get {
			t.Errorf("Get(%#x, %d, %d) is %#x", c.w, c.place, c.size, v)
		}
		if w := Put(c.w, c.place, c.size, c.v); w != c.put {
			t.Errorf("Put(%#x, %d, %d, %#x) is %#x", c.w, c.place, c.size, c.v, w)
		}
	}
}

func TestNoSuchField(t *testing.T) {
	for _, place := range numbers() {
		for _, size := range numbers() {
			if there(place, size) {
				continue
			}
			if m := Mask(place, size); m != 0 {
				t.Errorf("Mask(%d, %d) is %#x", place, size, m)
			}
			for _, w := range words {
				if v := Get(w, place, size); v != 0 {
					t.Errorf("Get(%#x, %d, %d) is %#x", w, place, size, v)
				}
				if u, v := Put(w, place, size, 0), Put(w, place, size, all); u != w || v != w {
					t.Errorf("Put(%#x, %d, %d) is %#x, %#x", w, place, size, u, v)
				}
			}
		}
	}
}

func TestGetAndMaskEverywhere(t *testing.T) {
	for place := range 64 {
		for size := 1; size <= 64-place; size++ {
			if m := Mask(place, size); m != masked(place, size) {
				t.Errorf("Mask(%d, %d) is %#x", place, size, m)
			}
			for _, w := range words {
				if v := Get(w, place, size); v != got(w, place, size) {
					t.Errorf("Get(%#x, %d, %d) is %#x", w, place, size, v)
				}
			}
		}
	}
}

func TestMaskExamples(t *testing.T) {
	for _, c := range []struct {
		place, size int
		want        uint64
	}{{0, 1, 1}, {4, 8, 0xff0}, {0, 63, 1<<63 - 1}, {0, 64, all}, {1, 63, all - 1}, {63, 1, 1 << 63}, {63, 2, 0}, {64, 1, 0}, {0, 0, 0}, {0, 65, 0}, {-1, 1, 0}} {
		if m := Mask(c.place, c.size); m != c.want {
			t.Errorf("Mask(%d, %d) is %#x", c.place, c.size, m)
		}
	}
}

func TestPutTakesLeastBits(t *testing.T) {
	values := []uint64{0, 1, 0x1f, 0x0123456789abcdef, 0xaaaaaaaaaaaaaaaa, all}
	for place := range 64 {
		for size := 1; size <= 64-place; size++ {
			for _, w := range []uint64{0, 0xfedcba9876543210, all} {
				for _, v := range values {
					if u := Put(w, place, size, v); u != laid(w, place, size, v) {
						t.Errorf("Put(%#x, %d, %d, %#x) is %#x", w, place, size, v, u)
					}
				}
			}
		}
	}
}

func TestBitAndSet(t *testing.T) {
	for _, w := range words {
		for place := range 64 {
			if is := Bit(w, place); is != (bit(w, place) == 1) {
				t.Errorf("Bit(%#x, %d) is %v", w, place, is)
			}
			if u := Set(w, place, true); u != laid(w, place, 1, 1) {
				t.Errorf("Set(%#x, %d, true) is %#x", w, place, u)
			}
			if u := Set(w, place, false); u != laid(w, place, 1, 0) {
				t.Errorf("Set(%#x, %d, false) is %#x", w, place, u)
			}
		}
	}
}

func TestNoSuchBit(t *testing.T) {
	for _, place := range []int{math.MinInt, -64, -1, 64, 65, 128, 1 << 32, math.MaxInt} {
		for _, w := range words {
			if Bit(w, place) {
				t.Errorf("Bit(%#x, %d) is true", w, place)
			}
			if u, v := Set(w, place, true), Set(w, place, false); u != w || v != w {
				t.Errorf("Set(%#x, %d) is %#x, %#x", w, place, u, v)
			}
		}
	}
}

func TestFitsEverySize(t *testing.T) {
	for size := 1; size <= 63; size++ {
		limit := power(size)
		for _, v := range []uint64{0, 1, limit / 2, limit - 1, limit, limit + 1, 1 << 63, all} {
			if is := Fits(v, size); is != (v < limit) {
				t.Errorf("Fits(%#x, %d) is %v", v, size, is)
			}
		}
	}
}

func TestFitsOutside(t *testing.T) {
	for _, v := range words {
		for _, size := range []int{math.MinInt, -64, -1, 0} {
			if Fits(v, size) {
				t.Errorf("Fits(%#x, %d) is true", v, size)
			}
		}
		for _, size := range []int{64, 65, 100, 128, 1 << 32, math.MaxInt} {
			if !Fits(v, size) {
				t.Errorf("Fits(%#x, %d) is false", v, size)
			}
		}
	}
}

// P1.2

func TestHexExamples(t *testing.T) {
	for _, c := range []struct {
		w    uint64
		want string
	}{
		{0, "0000000000000000"}, {255, "00000000000000ff"}, {0xdeadbeef, "00000000deadbeef"}, {1 << 63, "8000000000000000"},
		{0x0123456789abcdef, "0123456789abcdef"}, {0xfedcba9876543210, "fedcba9876543210"}, {all, "ffffffffffffffff"},
	} {
		if s := Hex(c.w); s != c.want {
			t.Errorf("Hex(%#x) is %q", c.w, s)
		}
		if w, is := Read(c.want); w != c.w || !is {
			t.Errorf("Read(%q) is %#x, %v", c.want, w, is)
		}
	}
}

// TestHexEverySign puts each sign at each place, alone and among others.
func TestHexEverySign(t *testing.T) {
	for place := 0; place < 64; place += 4 {
		for v := range uint64(16) {
			for _, w := range words {
				w = laid(w, place, 4, v)
				s := fmt.Sprintf("%016x", w)
				if h := Hex(w); h != s {
					t.Errorf("Hex(%#x) is %q", w, h)
				}
				if u, is := Read(s); u != w || !is {
					t.Errorf("Read(%q) is %#x, %v", s, u, is)
				}
			}
		}
	}
}

func TestReadRefusesOtherLengths(t *testing.T) {
	for n := range 40 {
		for _, sign := range []string{"0", "1", "f"} {
			if n == 16 {
				continue
			}
			refused(t, strings.Repeat(sign, n))
		}
	}
	refused(t, strings.Repeat("0", 1<<16))
}

// TestReadRefusesOtherBytes puts each byte that is no sign at each place: among them those that begin or end no rune.
func TestReadRefusesOtherBytes(t *testing.T) {
	for b := range 256 {
		for at := range 16 {
			s := "0123456789abcdef"
			s = s[:at] + string([]byte{byte(b)}) + s[at+1:]
			if strings.IndexByte("0123456789abcdef", byte(b)) < 0 {
				refused(t, s)
			} else if w, is := Read(s); !is || Hex(w) != s {
				t.Errorf("Read(%q) is %#x, %v", s, w, is)
			}
		}
	}
}

func TestReadRefusesOtherTexts(t *testing.T) {
	for _, s := range []string{
		"00000000DEADBEEF", "00000000deadbeeF", "000000000000000g", "0x00000000000001", "+000000000000001", "-000000000000001",
		" 000000000000001", "000000000000001 ", "000000000000001\n", "0000_0000_0000_1", "00000000.0000000",
		"00000000000000\u00e4", "000000000000000\u00e4", "0000000000000\uff11", "000000000000000\uff11", "000000000000\U0001d7d9", "000000000000000\U0001d7d9",
		"0000000000000\ufffd", "\ufeff0000000000000", "\ufeff0000000000000000",
		"000000000000000\x00", "\x000000000000000000", "\xff\xff\xff\xff\xff\xff\xff\xff\xff\xff\xff\xff\xff\xff\xff\xff",
		"00000000000000000000000000000000", "00000000000000ff 00000000000000ff",
	} {
		refused(t, s)
	}
}

// refused asserts that a text is no word's Hex.
func refused(t *testing.T, s string) {
	t.Helper()
	if w, is := Read(s); w != 0 || is {
		t.Errorf("Read(%q) is %#x, %v", s, w, is)
	}
}

// P1.3

func TestWhatIsPutIsGot(t *testing.T) {
	for place := range 64 {
		for size := 1; size <= 64-place; size++ {
			for _, w := range words {
				for _, v := range words {
					u := Put(w, place, size, v)
					if g := Get(u, place, size); g != Get(v, 0, size) || Fits(v, size) && g != v {
						t.Errorf("Get of Put(%#x, %d, %d, %#x) is %#x", w, place, size, v, g)
					}
					if (u^w)&^masked(place, size) != 0 {
						t.Errorf("Put(%#x, %d, %d, %#x) is %#x: another bit changed", w, place, size, v, u)
					}
				}
				if u := Put(w, place, size, Get(w, place, size)); u != w {
					t.Errorf("Put of what is there, %#x at %d, %d, is %#x", w, place, size, u)
				}
			}
		}
	}
}

func TestWhatIsSetIsTold(t *testing.T) {
	for _, w := range words {
		for place := range 64 {
			for _, is := range []bool{false, true} {
				u := Set(w, place, is)
				if Bit(u, place) != is {
					t.Errorf("Bit of Set(%#x, %d, %v) is %v", w, place, is, !is)
				}
				for other := range 64 {
					if other != place && Bit(u, other) != Bit(w, other) {
						t.Errorf("Set(%#x, %d, %v) changed the bit %d", w, place, is, other)
					}
				}
			}
		}
	}
}
