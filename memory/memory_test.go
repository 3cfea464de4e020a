package memory

import (
	"fmt"
	"math/bits"
	"testing"
	"time"

	"lookaside/api"
)

const (
	top  = ^uint64(0)
	most = uint64(1) << 41 // the greatest size
)

// far are addresses that are in no memory: behind the greatest one, and where a sum of address and bytes wraps round.
var far = []uint64{most, most + 1, most + 8, most + 16, 1 << 62, 1 << 63, 1<<63 + 8, top - 31, top - 23, top - 16, top - 15, top - 14, top - 8, top - 7, top - 6, top - 1, top}

// plain is a memory as a list of its bytes: what the tests hold the package against.
type plain []byte

// there tells whether n bytes (some) from an address on are in so many bytes: the last one's address, which does not wrap round, is below them.
func there(size, at, n uint64) bool {
	last, wraps := bits.Add64(at, n-1, 0)
	return wraps == 0 && last < size
}

// wantErrno is the error of n bytes at an address that must be a multiple of step.
func wantErrno(size, at, step, n uint64) api.Errno {
	if at%step != 0 {
		return api.ErrAlign
	}
	if n > 0 && !there(size, at, n) {
		return api.ErrRange
	}
	return api.OK
}

// word is the word at an address, whose bytes behind the end are 0.
func (p plain) word(at int) uint64 {
	w := uint64(0)
	for i := at; i < at+8; i++ {
		w *= 256
		if i < len(p) {
			w += uint64(p[i])
		}
	}
	return w
}

func (p plain) putWord(at int, w uint64) {
	for i := at + 7; i >= at; i-- {
		p[i] = byte(w % 256)
		w /= 256
	}
}

func (p plain) clear(at, n int) {
	for i := at; i < at+n; i++ {
		p[i] = 0
	}
}

func (p plain) copy(from, to, n int) {
	was := append(plain{}, p[from:from+n]...)
	for i, b := range was {
		p[to+i] = b
	}
}

func (p plain) used() int {
	n := 0
	for at := 0; at < len(p); at += 8 {
		if p.word(at) != 0 {
			n++
		}
	}
	return n
}

// check asserts that a memory is as it must be: each byte, word and pair of it, and how many words are used.
func check(t *testing.T, m *Memory, p plain, said ...any) {
	t.Helper()
	if m.Size() != uint64(len(p)) {
		t.Fatal(said, "size", m.Size(), "want", len(p))
	}
	if m.Used() != p.used() {
		t.Fatal(said, "used", m.Used(), "want", p.used())
	}
	for at := range p {
		if b, e := m.Byte(uint64(at)); b != p[at] || e != api.OK {
			t.Fatal(said, "byte at", at, "is", b, e, "want", p[at])
		}
	}
	for at := 0; at+8 <= len(p); at += 8 {
		if w, e := m.Word(uint64(at)); w != p.word(at) || e != api.OK {
			t.Fatalf("%v word at %d is %x (%v), want %x", said, at, w, e, p.word(at))
		}
	}
	for at := 0; at+16 <= len(p); at += 16 {
		if a, b, e := m.Pair(uint64(at)); a != p.word(at) || b != p.word(at+8) || e != api.OK {
			t.Fatalf("%v pair at %d is %x %x (%v), want %x %x", said, at, a, b, e, p.word(at), p.word(at+8))
		}
	}
}

// filled is a memory whose bytes are told by their addresses, and the same as a list.
func filled(t *testing.T, size int, tell func(at int) byte) (*Memory, plain) {
	t.Helper()
	m, p := New(uint64(size)), make(plain, size)
	for at := range p {
		p[at] = tell(at)
		if e := m.PutByte(uint64(at), p[at]); e != api.OK {
			t.Fatal("PutByte at", at, "of", size, e)
		}
	}
	return m, p
}

// never is a byte that is never 0; sparse one that mostly is.
func never(at int) byte { return byte(at%255 + 1) }

func sparse(at int) byte {
	if at%11 < 9 {
		return 0
	}
	return never(at)
}

// inTime asserts that something is done in a time that is long for few words, and short for all that a memory has bytes.
func inTime(t *testing.T, do func()) {
	t.Helper()
	done := make(chan bool)
	go func() {
		defer close(done)
		do()
	}()
	select {
	case <-done:
	case <-time.After(40 * time.Second):
		t.Fatal("takes too long")
	}
}

// must asserts that a call was told OK.
func must(t *testing.T, errnos ...api.Errno) {
	t.Helper()
	for i, e := range errnos {
		if e != api.OK {
			t.Fatal(i, e)
		}
	}
}

// P4.1

func TestSize(t *testing.T) {
	for _, size := range []uint64{0, 1, 7, 8, 9, 15, 16, 17, 8191, 8192, 1<<32 - 1, 1 << 32, 1 << 40, most - 16, most - 8, most - 1, most} {
		if m := New(size); m.Size() != size || m.Used() != 0 {
			t.Error(size, m.Size(), m.Used())
		}
	}
	for _, size := range []uint64{most + 1, most + 8, most + 8192, 1 << 42, 3 << 41, 1 << 63, 1<<63 + 5, top - 1, top} {
		if m := New(size); m.Size() != most || m.Used() != 0 {
			t.Error(size, m.Size(), m.Used())
		}
	}
}

func TestAllIsZeroAtFirst(t *testing.T) {
	for size := range 50 {
		check(t, New(uint64(size)), make(plain, size))
	}
	m := New(most)
	for at := uint64(1); at < most; at *= 2 {
		if b, e := m.Byte(at - 1); b != 0 || e != api.OK {
			t.Error(at, b, e)
		}
	}
}

func TestExample(t *testing.T) {
	m := New(16)
	must(t, m.PutWord(8, 1))
	if b, e := m.Byte(15); b != 1 || e != api.OK {
		t.Error(b, e)
	}
}

// TestHighestFirst: a word's bytes stand from the highest on, put as a word or one by one.
func TestHighestFirst(t *testing.T) {
	m := New(32)
	must(t, m.PutWord(8, 0x0123456789abcdef))
	for i, want := range []byte{0x01, 0x23, 0x45, 0x67, 0x89, 0xab, 0xcd, 0xef} {
		if b, e := m.Byte(8 + uint64(i)); b != want || e != api.OK {
			t.Errorf("byte %d is %x (%v), want %x", i, b, e, want)
		}
		must(t, m.PutByte(16+uint64(i), want))
	}
	if a, b, e := m.Pair(16); a != 0x0123456789abcdef || b != 0 || e != api.OK {
		t.Errorf("%x %x %v", a, b, e)
	}
	must(t, m.PutPair(0, 5, 6))
	check(t, m, plain{0, 0, 0, 0, 0, 0, 0, 5, 0, 0, 0, 0, 0, 0, 0, 6, 0x01, 0x23, 0x45, 0x67, 0x89, 0xab, 0xcd, 0xef, 0, 0, 0, 0, 0, 0, 0, 0})
}

func TestEachByteAtEachPlace(t *testing.T) {
	for at := range 19 {
		m, p := filled(t, 19, never)
		for b := 255; b >= 0; b-- {
			p[at] = byte(b)
			must(t, m.PutByte(uint64(at), byte(b)))
			check(t, m, p, at, b)
		}
	}
}

// tried are addresses in and around a memory of a small size, and far ones.
func tried(size uint64) []uint64 {
	l := append([]uint64{}, far...)
	for at := range size + 35 {
		l = append(l, at)
	}
	return l
}

// TestReadsAreRefused: what is read is told, or an error, ErrAlign first, with zeros beside it.
func TestReadsAreRefused(t *testing.T) {
	for size := range uint64(50) {
		m, p := filled(t, int(size), never)
		for _, at := range tried(size) {
			want, wantByte := wantErrno(size, at, 1, 1), byte(0)
			if want == api.OK {
				wantByte = p[at]
			}
			if b, e := m.Byte(at); e != want || b != wantByte {
				t.Fatal("Byte", size, at, b, e, want)
			}
			want, wantA := wantErrno(size, at, 8, 8), uint64(0)
			if want == api.OK {
				wantA = p.word(int(at))
			}
			if w, e := m.Word(at); e != want || w != wantA {
				t.Fatal("Word", size, at, w, e, want)
			}
			want, wantA, wantB := wantErrno(size, at, 16, 16), uint64(0), uint64(0)
			if want == api.OK {
				wantA, wantB = p.word(int(at)), p.word(int(at)+8)
			}
			if a, b, e := m.Pair(at); e != want || a != wantA || b != wantB {
				t.Fatal("Pair", size, at, a, b, e, want)
			}
		}
		check(t, m, p)
	}
}

// TestPutsAreRefused: what is put stands there, or an error is told, ErrAlign first, and nothing is done.
func TestPutsAreRefused(t *testing.T) {
	for size := range uint64(50) {
		m, p := filled(t, int(size), never)
		for _, at := range tried(size) {
			want := wantErrno(size, at, 1, 1)
			if want == api.OK {
				p[at] = 0xee
			}
			if e := m.PutByte(at, 0xee); e != want {
				t.Fatal("PutByte", size, at, e, want)
			}
			check(t, m, p, "PutByte", at)
			if want = wantErrno(size, at, 8, 8); want == api.OK {
				p.putWord(int(at), at*0x0101010101010101)
			}
			if e := m.PutWord(at, at*0x0101010101010101); e != want {
				t.Fatal("PutWord", size, at, e, want)
			}
			check(t, m, p, "PutWord", at)
			if want = wantErrno(size, at, 16, 16); want == api.OK {
				p.putWord(int(at), 0x1122334455667788)
				p.putWord(int(at)+8, top-at)
			}
			if e := m.PutPair(at, 0x1122334455667788, top-at); e != want {
				t.Fatal("PutPair", size, at, e, want)
			}
			check(t, m, p, "PutPair", at)
		}
	}
}

// TestErrorsExamples: the last byte, word and pair of memories, the first ones behind them, and those that do not stand where they must, in the memory and out of it.
func TestErrorsExamples(t *testing.T) {
	const ok, align, none = api.OK, api.ErrAlign, api.ErrRange
	for _, c := range []struct {
		size, at         uint64
		byte, word, pair api.Errno
	}{
		{0, 0, none, none, none}, {0, 1, none, align, align}, {0, 8, none, none, align}, {0, 16, none, none, none},
		{1, 0, ok, none, none}, {1, 1, none, align, align},
		{7, 0, ok, none, none}, {7, 6, ok, align, align}, {7, 7, none, align, align}, {7, 8, none, none, align},
		{8, 0, ok, ok, none}, {8, 7, ok, align, align}, {8, 8, none, none, align}, {8, 16, none, none, none},
		{9, 8, ok, none, align}, {15, 0, ok, ok, none}, {15, 8, ok, none, align},
		{16, 0, ok, ok, ok}, {16, 8, ok, ok, align}, {16, 16, none, none, none}, {16, 24, none, none, align},
		{24, 16, ok, ok, none}, {31, 16, ok, ok, none}, {32, 16, ok, ok, ok}, {32, 24, ok, ok, align}, {32, 32, none, none, none},
		{100, 96, ok, none, none}, {100, 99, ok, align, align}, {100, 100, none, align, align},
		{most - 1, most - 16, ok, ok, none}, {most - 1, most - 8, ok, none, align}, {most - 1, most - 2, ok, align, align}, {most - 1, most - 1, none, align, align},
		{most, most - 16, ok, ok, ok}, {most, most - 8, ok, ok, align}, {most, most - 1, ok, align, align}, {most, most, none, none, none}, {most, most + 8, none, none, align},
		{top, most - 16, ok, ok, ok}, {top, most - 1, ok, align, align}, {top, most, none, none, none}, {top, most + 1, none, align, align},
		{most, 1 << 63, none, none, none}, {most, top - 15, none, none, none}, {most, top - 7, none, none, align}, {most, top, none, align, align},
		{8, top - 15, none, none, none}, {8, top - 7, none, none, align}, {8, top - 3, none, align, align}, {8, top, none, align, align},
	} {
		m := New(c.size)
		_, e1 := m.Byte(c.at)
		_, e2 := m.Word(c.at)
		_, _, e3 := m.Pair(c.at)
		if e1 != c.byte || e2 != c.word || e3 != c.pair {
			t.Error("read", c.size, c.at, e1, e2, e3)
		}
		e1, e2, e3 = m.PutByte(c.at, 1), m.PutWord(c.at, 2), m.PutPair(c.at, 3, 4)
		if e1 != c.byte || e2 != c.word || e3 != c.pair {
			t.Error("put", c.size, c.at, e1, e2, e3)
		}
		want := 0
		if c.byte == ok || c.word == ok {
			want = 1
		}
		if c.pair == ok {
			want = 2
		}
		if m.Used() != want {
			t.Error(c.size, c.at, "used", m.Used(), "want", want)
		}
	}
}

// counts are numbers of bytes: all of a small memory's, and those with which a sum wraps round.
func counts(size uint64) []uint64 {
	l := []uint64{most, most + 1, 1 << 63, 1<<63 + 1, top - 16, top - 8, top - 7, top - 1, top}
	for n := range size + 20 {
		l = append(l, n)
	}
	return l
}

func TestClearIsRefused(t *testing.T) {
	for size := range uint64(20) {
		m, p := filled(t, int(size), never)
		for _, at := range tried(size) {
			for _, n := range counts(size) {
				want := wantErrno(size, at, 1, n)
				if want == api.OK && n > 0 {
					continue
				}
				if e := m.Clear(at, n); e != want {
					t.Fatal("Clear", size, at, n, e, want)
				}
			}
		}
		check(t, m, p)
	}
}

func TestCopyIsRefused(t *testing.T) {
	for _, size := range []uint64{0, 1, 7, 8, 9, 16, 17} {
		m, p := filled(t, int(size), never)
		for _, from := range tried(size) {
			for _, to := range tried(size) {
				for _, n := range counts(size) {
					want := wantErrno(size, from, 1, n)
					if want == api.OK {
						want = wantErrno(size, to, 1, n)
					}
					if want == api.OK && n > 0 {
						continue
					}
					if e := m.Copy(from, to, n); e != want {
						t.Fatal("Copy", size, from, to, n, e, want)
					}
				}
			}
		}
		check(t, m, p)
	}
}

// TestOfNoBytes: none is asked where they would be.
func TestOfNoBytes(t *testing.T) {
	for _, size := range []uint64{0, 1, 7, 8, 64, most} {
		m := New(size)
		m.PutByte(0, 5)
		used := m.Used()
		for _, at := range append([]uint64{0, 1, 3, 8, 63, 64, 65, most - 1}, far...) {
			if e := m.Clear(at, 0); e != api.OK {
				t.Error("Clear", size, at, e)
			}
			for _, to := range append([]uint64{0, 1, 9, most - 1}, far...) {
				if e := m.Copy(at, to, 0); e != api.OK {
					t.Error("Copy", size, at, to, e)
				}
			}
		}
		if b, _ := m.Byte(0); m.Used() != used || size > 0 && b != 5 {
			t.Error(size, m.Used(), b)
		}
	}
}

// P4.2

// TestClearEverywhere clears all ranges of memories whose last word is whole, or not; with all bytes used, and with few.
func TestClearEverywhere(t *testing.T) {
	for _, tell := range []func(int) byte{never, sparse} {
		for _, size := range []int{1, 7, 8, 9, 16, 29, 40} {
			for at := range size {
				for n := range size - at + 1 {
					m, p := filled(t, size, tell)
					p.clear(at, n)
					must(t, m.Clear(uint64(at), uint64(n)))
					check(t, m, p, "Clear", size, at, n)
				}
			}
		}
	}
}

func TestCopyEverywhere(t *testing.T) {
	for _, tell := range []func(int) byte{never, sparse} {
		for _, size := range []int{1, 7, 8, 9, 16, 29} {
			for from := range size {
				for to := range size {
					for n := range size - max(from, to) + 1 {
						m, p := filled(t, size, tell)
						p.copy(from, to, n)
						must(t, m.Copy(uint64(from), uint64(to), uint64(n)))
						check(t, m, p, "Copy", size, from, to, n)
					}
				}
			}
		}
	}
}

// TestCopyOntoItself: by 0 to 9 bytes, and some more, in both directions, many words at a time.
func TestCopyOntoItself(t *testing.T) {
	for _, tell := range []func(int) byte{never, sparse} {
		for _, by := range []int{0, 1, 2, 3, 4, 5, 6, 7, 8, 9, 15, 16, 17, 64, 100} {
			for _, at := range []int{0, 1, 3, 7, 8, 13} {
				for _, n := range []int{1, 2, 7, 8, 9, 16, 100, 511, 512, 513, 1000} {
					m, p := filled(t, 1203, tell)
					p.copy(at, at+by, n)
					must(t, m.Copy(uint64(at), uint64(at+by), uint64(n)))
					check(t, m, p, "up", at, by, n)
					m, p = filled(t, 1203, tell)
					p.copy(at+by, at, n)
					must(t, m.Copy(uint64(at+by), uint64(at), uint64(n)))
					check(t, m, p, "down", at, by, n)
				}
			}
		}
	}
}

func TestCopyExamples(t *testing.T) {
	m := New(24)
	must(t, m.PutWord(8, 0x0102030405060708), m.Copy(8, 10, 8))
	check(t, m, plain{0, 0, 0, 0, 0, 0, 0, 0, 1, 2, 1, 2, 3, 4, 5, 6, 7, 8, 0, 0, 0, 0, 0, 0})
	must(t, m.Copy(11, 0, 7))
	check(t, m, plain{2, 3, 4, 5, 6, 7, 8, 0, 1, 2, 1, 2, 3, 4, 5, 6, 7, 8, 0, 0, 0, 0, 0, 0})
	must(t, m.Copy(18, 1, 6))
	check(t, m, plain{2, 0, 0, 0, 0, 0, 0, 0, 1, 2, 1, 2, 3, 4, 5, 6, 7, 8, 0, 0, 0, 0, 0, 0})
}

// TestUsed behind each call: words come with their first byte that is not 0, and go with the last.
func TestUsed(t *testing.T) {
	m := New(most)
	for i, c := range []struct {
		e    api.Errno
		used int
		want int
	}{
		{api.OK, m.Used(), 0},
		{m.PutByte(15, 0), m.Used(), 0},
		{m.PutByte(15, 1), m.Used(), 1},
		{m.PutByte(8, 2), m.Used(), 1},
		{m.PutByte(16, 3), m.Used(), 2},
		{m.PutByte(15, 0), m.Used(), 2},
		{m.PutByte(8, 0), m.Used(), 1},
		{m.PutWord(16, 0), m.Used(), 0},
		{m.PutWord(16, 0), m.Used(), 0},
		{m.PutWord(most-8, 1), m.Used(), 1},
		{m.PutPair(most-16, 0, 2), m.Used(), 1},
		{m.PutPair(most-16, 3, 0), m.Used(), 1},
		{m.PutPair(most-16, 3, 4), m.Used(), 2},
		{m.Copy(most-16, 0, 16), m.Used(), 4},
		{m.Copy(0, 4, 12), m.Used(), 3},
		{m.Copy(most-16, 1, 15), m.Used(), 3},
		{m.Copy(100, most-16, 16), m.Used(), 1},
		{m.Clear(1, 7), m.Used(), 1},
		{m.Clear(0, 8), m.Used(), 1},
		{m.Clear(8, 8), m.Used(), 0},
		{m.PutPair(0, 1, 1), m.Used(), 2},
		{m.Clear(0, most), m.Used(), 0},
	} {
		if c.e != api.OK || c.used != c.want {
			t.Error(i, c.e, c.used, c.want)
		}
	}
}

// TestUsedOfTheEnd: the bytes behind the last whole word are a word's, too.
func TestUsedOfTheEnd(t *testing.T) {
	for size := uint64(1); size < 40; size++ {
		m := New(size)
		must(t, m.PutByte(size-1, 9))
		if m.Used() != 1 {
			t.Error(size, m.Used())
		}
		must(t, m.Copy(size-1, 0, 1), m.Clear(size-1, 1))
		if want := min(1, int(size-1)); m.Used() != want {
			t.Error(size, m.Used(), want)
		}
	}
}

// TestManyBytesTakeNoTime: the greatest ranges of a memory with few words, again and again.
func TestManyBytesTakeNoTime(t *testing.T) {
	inTime(t, func() {
		const half = most / 2
		m := New(most)
		for range 20000 {
			e := []api.Errno{m.PutByte(3, 7), m.PutWord(half-8, 0x0102030405060708), m.Copy(0, half, half), m.Copy(1, half+2, half-2)}
			for _, x := range []struct {
				at   uint64
				want byte
			}{{3, 7}, {half + 3, 0}, {half + 4, 7}, {most - 8, 0}, {most - 7, 1}, {most - 1, 7}, {half - 1, 8}} {
				if b, _ := m.Byte(x.at); b != x.want {
					t.Errorf("byte at %d is %d, want %d", x.at, b, x.want)
				}
			}
			if m.Used() != 4 {
				t.Error("used", m.Used())
			}
			e = append(e, m.Clear(4, most-4), m.Clear(0, 3))
			if b, _ := m.Byte(3); b != 7 || m.Used() != 1 {
				t.Error(b, m.Used())
			}
			e = append(e, m.Copy(1, 0, most-1), m.Clear(0, most))
			for i, x := range e {
				if x != api.OK || m.Used() != 0 {
					t.Error(i, x, m.Used())
				}
			}
			if t.Failed() {
				return
			}
		}
	})
}

// TestFewBytesTakeNoTime: small ranges of a memory with many words, again and again.
func TestFewBytesTakeNoTime(t *testing.T) {
	inTime(t, func() {
		const words = 1 << 18
		m := New(most)
		for i := range uint64(words) {
			m.PutWord(i*8, i+1)
		}
		for i := range uint64(200000) {
			m.Clear(i*8, 8)
			m.Copy(i*8+8, i*8, 8)
			if w, _ := m.Word(i * 8); w != i+2 || m.Used() != words {
				t.Error(i, w, m.Used())
				return
			}
		}
	})
}

// TestWordsThatAreGoneTakeNoTime: how many words there were once does not count.
func TestWordsThatAreGoneTakeNoTime(t *testing.T) {
	for _, away := range []func(m *Memory, end uint64){
		func(m *Memory, end uint64) { m.Clear(0, end) },
		func(m *Memory, end uint64) {
			for at := uint64(0); at < end; at += 8 {
				m.PutWord(at, 0)
			}
		},
	} {
		inTime(t, func() {
			const end = 8 << 20
			m := New(most)
			for at := uint64(0); at <= end; at += 8 {
				m.PutWord(at, 5)
			}
			away(m, end)
			for range 200000 {
				m.Clear(0, end)
				m.Clear(end+8, most-end-8)
				m.Copy(0, 8192, 8192)
			}
			if w, e := m.Word(end); w != 5 || e != api.OK || m.Used() != 1 {
				t.Error(w, e, m.Used())
			}
		})
	}
}

// P4.3

// dice are numbers that look like chance, but are always the same.
type dice uint64

func (d *dice) throw(n int) int {
	*d = *d*6364136223846793005 + 1442695040888963407
	return int(uint64(*d) >> 33 % uint64(n))
}

// value is a word; some of its bytes are 0, and one of four is 0 whole.
func (d *dice) value() uint64 {
	w := uint64(0)
	for range d.throw(4) * 8 / 3 {
		w = w*256 + uint64(d.throw(3)*d.throw(120))
	}
	return w
}

// play does one thing with a memory and with the list, and tells what; the list must have 16 bytes at least.
func play(t *testing.T, d *dice, m *Memory, p plain) string {
	t.Helper()
	size, w := len(p), d.value()
	switch d.throw(8) {
	case 0, 1:
		at := d.throw(size)
		p[at] = byte(w)
		must(t, m.PutByte(uint64(at), byte(w)))
		return fmt.Sprint("PutByte ", at, byte(w))
	case 2, 3:
		at := d.throw(size/8) * 8
		p.putWord(at, w)
		must(t, m.PutWord(uint64(at), w))
		return fmt.Sprint("PutWord ", at, w)
	case 4, 5:
		at, b := d.throw(size/16)*16, d.value()
		p.putWord(at, w)
		p.putWord(at+8, b)
		must(t, m.PutPair(uint64(at), w, b))
		return fmt.Sprint("PutPair ", at, w, b)
	case 6:
		at := d.throw(size)
		n := d.throw(d.throw(size-at+1) + 1)
		p.clear(at, n)
		must(t, m.Clear(uint64(at), uint64(n)))
		return fmt.Sprint("Clear ", at, n)
	}
	from, to := d.throw(size), d.throw(size)
	n := d.throw(size - max(from, to) + 1)
	p.copy(from, to, n)
	must(t, m.Copy(uint64(from), uint64(to), uint64(n)))
	return fmt.Sprint("Copy ", from, to, n)
}

// TestLongPlays does thousands of things in a row, with few words and with some hundreds, and looks at all bytes behind each.
func TestLongPlays(t *testing.T) {
	for _, c := range []struct{ size, moves int }{{16, 4000}, {17, 4000}, {24, 4000}, {39, 4000}, {64, 4000}, {100, 4000}, {1003, 3000}, {8192, 600}} {
		d := dice(c.size)
		m, p := New(uint64(c.size)), make(plain, c.size)
		for i := range c.moves {
			check(t, m, p, i, play(t, &d, m, p))
		}
	}
}

// TestManyComeAndGo fills a memory with words and takes them away again, a part at a time: whatever becomes of the room for them, those that stay are read.
func TestManyComeAndGo(t *testing.T) {
	const size = 8003
	m, p := New(size), make(plain, size)
	for round := range 3 {
		for at := 0; at+8 <= size; at += 8 {
			p.putWord(at, uint64(at+round+1))
			must(t, m.PutWord(uint64(at), uint64(at+round+1)))
		}
		check(t, m, p, "full", round)
		for at, n := 0, 500; at < size; at += n {
			if n = min(n, size-at); at%3 == round {
				p.clear(at, n)
				must(t, m.Clear(uint64(at), uint64(n)))
				check(t, m, p, "clear", round, at)
				continue
			}
			for i := at; i < at+n; i++ {
				p[i] = 0
				must(t, m.PutByte(uint64(i), 0))
			}
			check(t, m, p, "bytes", round, at)
		}
	}
}

// TestElsewhereIsNotTouched: one byte, word or pair is put at each power of 2; all of them are read at the end, and their neighbours are 0.
func TestElsewhereIsNotTouched(t *testing.T) {
	m := New(most)
	for at := uint64(64); at < most; at *= 2 {
		must(t, m.PutWord(at-8, at+1), m.PutPair(at, at+2, at+3), m.PutByte(at+20, 9))
	}
	for at := uint64(64); at < most; at *= 2 {
		w, e1 := m.Word(at - 8)
		a, b, e2 := m.Pair(at)
		c, e3 := m.Word(at + 16)
		must(t, e1, e2, e3)
		if w != at+1 || a != at+2 || b != at+3 || c != 9<<24 {
			t.Error(at, w, a, b, c)
		}
		if w, e := m.Word(at + 24); w != 0 || e != api.OK {
			t.Error(at, w, e)
		}
	}
}

// TestTwoMemories: what is put into one is not in another.
func TestTwoMemories(t *testing.T) {
	a, b := New(64), New(64)
	must(t, a.PutWord(8, 1), b.PutWord(16, 2), a.Copy(8, 24, 8), b.Clear(8, 8))
	p, q := make(plain, 64), make(plain, 64)
	p.putWord(8, 1)
	p.putWord(24, 1)
	q.putWord(16, 2)
	check(t, a, p)
	check(t, b, q)
}
