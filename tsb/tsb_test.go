package tsb

import (
	"fmt"
	"math"
	"math/rand"
	"slices"
	"testing"

	"lookaside/api"
	"lookaside/memory"
	"lookaside/tte"
)

const (
	top      = ^uint64(0)
	holeFrom = uint64(1) << 43            // the first address in the hole
	holeTo   = uint64(0xfffff80000000000) // the first one behind it
	bad      = uint64(0x7fffffffffffffff) // the tag of a place that is locked
	odd      = uint64(0xa5c3_9617_e84b_2d5f)
)

// bytes are the pages' bytes, written out; least are the places of each size in the grade 0.
var (
	bytes = []uint64{8192, 65536, 524288, 4194304}
	least = []int{512, 64, 8, 1}
)

// count is how many places there are, by doubling.
func count(size, grade int) int {
	n := least[size]
	for range grade {
		n += n
	}
	return n
}

// unknown are numbers that are no size and no grade; some of them are one modulo a power of 2.
var unknown = []int{math.MinInt, math.MinInt + 1, math.MinInt + 3, -1 << 62, -1 << 32, -1<<32 + 1, -64, -4, -3, -2, -1, 4, 5, 6, 7, 8, 63, 64, 65, 1 << 32, 1<<32 + 1, 1 << 62, math.MaxInt - 3, math.MaxInt - 1, math.MaxInt}

// wrongCtxs are numbers that are no context's; some of them are one modulo 2^13.
var wrongCtxs = []int{math.MinInt, math.MinInt + 1, -1 << 32, -8192, -8191, -2, -1, 8192, 8193, 8195, 16384, 1 << 32, 1<<32 + 3, math.MaxInt - 1, math.MaxInt}

// each does something with each size and grade.
func each(do func(size, grade int)) {
	for size := range bytes {
		for grade := range 4 {
			do(size, grade)
		}
	}
}

// of is an entry of a context, a size and an address, whose frames and attributes go by these.
func of(ctx, size int, va uint64) api.Entry {
	at := va / bytes[size] % 1000
	return api.Entry{Valid: true, Ctx: ctx, Size: size, Va: va, Pa: (at + uint64(ctx%7) + 1) * bytes[size], Attr: api.Attr{Write: at%2 == 0, Exec: at%3 == 0, Priv: ctx%2 == 1, Lock: at%5 == 1, Quiet: at%7 == 2}}
}

// global is an entry with Global, of the context 0.
func global(e api.Entry) api.Entry {
	e.Attr.Global, e.Ctx = true, 0
	return e
}

// wrongEntries are such as may not be; each but the first ones lacks one thing.
func wrongEntries() []api.Entry {
	l := []api.Entry{{}, {Size: 1, Ctx: 5, Va: 65536}}
	for size, n := range bytes {
		not := of(1, size, n)
		not.Valid = false
		l = append(l, not)
		for _, ctx := range wrongCtxs {
			e := of(1, size, n)
			e.Ctx = ctx
			l = append(l, e)
		}
		for _, ctx := range []int{math.MinInt, -1, 1, 8191, 8192, math.MaxInt} {
			e := global(of(1, size, n))
			e.Ctx = ctx
			l = append(l, e)
		}
		for _, va := range []uint64{1, n / 2, n - 1, n + 1, top, holeFrom, holeFrom + n, 1 << 44, 1 << 63, holeTo - n} {
			e := of(1, size, n)
			e.Va = va
			l = append(l, e)
		}
		for _, pa := range []uint64{1, n / 2, n - 1, 1 << 41, 1<<41 + n, top - n + 1} {
			e := of(1, size, n)
			e.Pa = pa
			l = append(l, e)
		}
	}
	for _, size := range unknown {
		l = append(l, api.Entry{Valid: true, Ctx: 1, Size: size})
	}
	return l
}

// flag is a bit of a word, if it is.
func flag(bit int, is bool) uint64 {
	if is {
		return 1 << bit
	}
	return 0
}

// words are the tag and the data of an entry that may be, added up by chapter 3's words.
func words(e api.Entry) (uint64, uint64) {
	tag := uint64(e.Ctx)*(1<<48) + e.Va/4194304%4194304 + flag(63, e.Attr.Global)
	data := 1<<63 + uint64(e.Size)*(1<<61) + e.Pa + flag(60, e.Attr.Quiet) + flag(6, e.Attr.Lock) + flag(3, e.Attr.Exec) + flag(2, e.Attr.Priv) + flag(1, e.Attr.Write) + flag(0, e.Attr.Global)
	return tag, data
}

// plain is a TSB as a list of its places' words: what the tests hold the package against.
type plain struct {
	size, grade int
	base        uint64
	at          [][2]uint64
}

// empty is one all of whose places are locked.
func empty(base uint64, size, grade int) *plain {
	p := &plain{size: size, grade: grade, base: base, at: make([][2]uint64, count(size, grade))}
	p.clear()
	return p
}

func (p *plain) clear() {
	for i := range p.at {
		p.drop(i)
	}
}

func (p *plain) drop(i int) { p.at[i] = [2]uint64{bad, 0} }

// place is an address's.
func (p *plain) place(va uint64) int { return int(va / bytes[p.size] % uint64(len(p.at))) }

// has is the entry that a place has at an address.
func (p *plain) has(i int, va uint64) (api.Entry, bool) {
	e, errno := tte.Read(p.at[i][0], p.at[i][1], va)
	if errno != api.OK || e.Size != p.size {
		return api.Entry{}, false
	}
	return e, true
}

func (p *plain) find(va uint64, ctx int) (api.Entry, bool) {
	e, is := p.has(p.place(va), va)
	if !is || e.Ctx != ctx && !e.Attr.Global {
		return api.Entry{}, false
	}
	return e, true
}

func (p *plain) insert(e api.Entry) {
	tag, data := words(e)
	p.at[p.place(e.Va)] = [2]uint64{tag, data}
}

// address is that of a place: of the pages that begin in the 4194304 bytes of the tag, the one that stands where the place does among as many places; false, if it has another place.
func (p *plain) address(i int) (uint64, bool) {
	va := p.at[i][0] % 4194304 * 4194304
	if va >= holeFrom {
		va += holeTo - holeFrom
	}
	va += uint64(i) % (4194304 / bytes[p.size]) * bytes[p.size]
	return va, p.place(va) == i
}

// list is the entries of all places, and these.
func (p *plain) list() ([]api.Entry, []int) {
	var l []api.Entry
	var at []int
	for i := range p.at {
		va, is := p.address(i)
		if !is {
			continue
		}
		if e, is := p.has(i, va); is {
			l, at = append(l, e), append(at, i)
		}
	}
	return l, at
}

func (p *plain) dropContext(ctx int) int {
	l, at := p.list()
	n := 0
	for j, e := range l {
		if e.Ctx == ctx && !e.Attr.Global {
			p.drop(at[j])
			n++
		}
	}
	return n
}

func (p *plain) locked() int {
	n := 0
	for _, w := range p.at {
		if w[0] == bad {
			n++
		}
	}
	return n
}

// must asserts that a call was told OK.
func must(t *testing.T, errnos ...api.Errno) {
	t.Helper()
	for i, e := range errnos {
		if e != api.OK {
			t.Fatal(i, e)
		}
	}
}

// beside is how many bytes stand ahead of a TSB that made tells, and behind it.
const beside = 64

// filled is a memory of n places and what stands beside, of words that are not 0; no two that stand near are the same.
func filled(t *testing.T, n int) *memory.Memory {
	t.Helper()
	m := memory.New(uint64(16*n + 2*beside))
	for at := uint64(0); at < m.Size(); at += 8 {
		must(t, m.PutWord(at, odd+at))
	}
	return m
}

// made is a TSB in a memory that is filled, and the same as a list.
func made(t *testing.T, size, grade int) (*memory.Memory, *Tsb, *plain) {
	t.Helper()
	m := filled(t, count(size, grade))
	x, e := New(m, beside, size, grade)
	must(t, e)
	return m, x, empty(beside, size, grade)
}

// check asserts that a TSB that made told is as it must be: by its calls, by each word in the memory, and by those beside.
func check(t *testing.T, m *memory.Memory, x *Tsb, p *plain, said ...any) {
	t.Helper()
	tells(t, x, p, said...)
	stands(t, m, p, said...)
	end := beside + 16*uint64(len(p.at))
	for i := uint64(0); i < beside; i += 8 {
		for _, at := range []uint64{i, end + i} {
			if w, e := m.Word(at); e != api.OK || w != odd+at {
				t.Fatalf("%v: beside, at %#x stands %x (%d)", said, at, w, e)
			}
		}
	}
}

// tells asserts what a TSB tells of itself.
func tells(t *testing.T, x *Tsb, p *plain, said ...any) {
	t.Helper()
	if x.Len() != len(p.at) || x.Base() != p.base || x.Grade() != p.grade {
		t.Fatal(said, "Len", x.Len(), "Base", x.Base(), "Grade", x.Grade())
	}
	if x.Locked() != p.locked() {
		t.Fatal(said, "Locked", x.Locked(), "want", p.locked())
	}
	if want, _ := p.list(); !slices.Equal(x.List(), want) {
		t.Fatal(said, "List", x.List(), "want", want)
	}
}

// stands asserts which words stand at a TSB's places.
func stands(t *testing.T, m *memory.Memory, p *plain, said ...any) {
	t.Helper()
	for i, w := range p.at {
		a, b, e := m.Pair(p.base + 16*uint64(i))
		if e != api.OK || a != w[0] || b != w[1] {
			t.Fatalf("%v: at the place %d stand %x and %x (%d), not %x and %x", said, i, a, b, e, w[0], w[1])
		}
	}
}

// finds asserts what Find tells of an address in contexts: as many as may be, and such as may not.
func finds(t *testing.T, x *Tsb, p *plain, va uint64, said ...any) {
	t.Helper()
	for _, ctx := range append([]int{0, 1, 2, 3, 77, 8190, 8191}, wrongCtxs...) {
		want, wantIs := p.find(va, ctx)
		if e, is := x.Find(va, ctx); e != want || is != wantIs {
			t.Fatalf("%v: Find(%#x, %d) is %v, %v; want %v, %v", said, va, ctx, e, is, want, wantIs)
		}
	}
}

// found asserts that an entry is found at addresses of its page in contexts, and not in others.
func found(t *testing.T, x *Tsb, e api.Entry, in []int, out []int) {
	t.Helper()
	n := bytes[e.Size]
	for _, va := range []uint64{e.Va, e.Va + 1, e.Va + n/2, e.Va + n - 1} {
		for _, ctx := range in {
			if f, is := x.Find(va, ctx); f != e || !is {
				t.Errorf("Find(%#x, %d) is %v, %v", va, ctx, f, is)
			}
		}
		for _, ctx := range out {
			if f, is := x.Find(va, ctx); f != (api.Entry{}) || is {
				t.Errorf("Find(%#x, %d) is %v, %v", va, ctx, f, is)
			}
		}
	}
}

// pages are where pages begin: the least and the greatest of each side of the hole, and some between.
func pages(size int) []uint64 {
	n := bytes[size]
	return []uint64{0, n, 2 * n, 7 * n, 511 * n, 512 * n, 4194304, 2 * 4194304, 1 << 42, holeFrom - 2*n, holeFrom - n, holeTo, holeTo + n, holeTo + 8*4194304, top - 2*n + 1, top - n + 1}
}

// P10.1

func TestPlacesWrittenOut(t *testing.T) {
	for size, row := range [][]int{{512, 1024, 2048, 4096}, {64, 128, 256, 512}, {8, 16, 32, 64}, {1, 2, 4, 8}} {
		for grade, want := range row {
			if n := Places(size, grade); n != want || count(size, grade) != want {
				t.Errorf("Places(%d, %d) is %d, not %d", size, grade, n, want)
			}
		}
	}
}

func TestPlacesOfNothing(t *testing.T) {
	for _, no := range unknown {
		for _, other := range append([]int{0, 1, 2, 3}, unknown...) {
			if n := Places(no, other); n != 0 {
				t.Errorf("Places(%d, %d) is %d", no, other, n)
			}
			if n := Places(other, no); n != 0 {
				t.Errorf("Places(%d, %d) is %d", other, no, n)
			}
		}
	}
}

func TestExample(t *testing.T) {
	m := memory.New(8192)
	x, e := New(m, 0, 0, 0)
	must(t, e)
	if x.Len() != 512 {
		t.Error(x.Len())
	}
	a := api.Entry{Valid: true, Ctx: 1, Va: 8192}
	must(t, x.Insert(a))
	found(t, x, a, []int{1}, []int{2})
}

// refused asserts that New tells an error, and does nothing.
func refused(t *testing.T, m *memory.Memory, base uint64, size, grade int, want api.Errno) {
	t.Helper()
	if x, e := New(m, base, size, grade); x != nil || e != want {
		t.Errorf("New(%d bytes, %#x, %d, %d) is %v, %d; want %d", m.Size(), base, size, grade, x != nil, e, want)
	}
	for at := uint64(0); at+8 <= m.Size(); at += 8 {
		if w, _ := m.Word(at); w != odd+at {
			t.Fatalf("New(%d bytes, %#x, %d, %d): at %#x stands %x", m.Size(), base, size, grade, at, w)
		}
	}
}

// TestNewAtTheEnds: at the first base, at the last one at which all places are in the memory, and one place behind.
func TestNewAtTheEnds(t *testing.T) {
	each(func(size, grade int) {
		n := count(size, grade)
		m := filled(t, n)
		last := uint64(2 * beside)
		for _, base := range []uint64{last + 16, last + 32, m.Size(), m.Size() + 16, 1 << 40, 1 << 41, 1<<41 + 16} {
			refused(t, m, base, size, grade, api.ErrRange)
		}
		for _, base := range []uint64{0, 16, 48, last - 16, last} {
			x, e := New(m, base, size, grade)
			must(t, e)
			p := empty(base, size, grade)
			tells(t, x, p, size, grade, base)
			stands(t, m, p, size, grade, base)
		}
	})
}

// TestNewInMemories: of memories that are too small by a byte, just great enough, and a little greater.
func TestNewInMemories(t *testing.T) {
	each(func(size, grade int) {
		n := uint64(16 * count(size, grade))
		for _, c := range []struct {
			bytes, base uint64
			want        api.Errno
		}{
			{0, 0, api.ErrRange}, {n - 16, 0, api.ErrRange}, {n - 8, 0, api.ErrRange}, {n - 1, 0, api.ErrRange},
			{n, 0, api.OK}, {n + 1, 0, api.OK}, {n, 16, api.ErrRange}, {n + 15, 16, api.ErrRange}, {n + 16, 16, api.OK}, {n + 16, 32, api.ErrRange},
			{1 << 41, 1<<41 - n, api.OK}, {1 << 41, 1<<41 - n + 16, api.ErrRange}, {top, 1<<41 - n, api.OK}, {top, 1<<41 - n + 16, api.ErrRange},
		} {
			m := memory.New(c.bytes)
			x, e := New(m, c.base, size, grade)
			if e != c.want || (x != nil) != (e == api.OK) {
				t.Errorf("New(%d bytes, %#x, %d, %d): %d", c.bytes, c.base, size, grade, e)
			}
			if x == nil {
				if m.Used() != 0 {
					t.Errorf("New(%d bytes, %#x, %d, %d) was refused, and did something", c.bytes, c.base, size, grade)
				}
				continue
			}
			tells(t, x, empty(c.base, size, grade), c.bytes, c.base)
		}
	})
}

// TestNewNotAligned: a base is a multiple of 16, also where not all places were in the memory.
func TestNewNotAligned(t *testing.T) {
	each(func(size, grade int) {
		m := filled(t, count(size, grade))
		for low := uint64(1); low < 16; low++ {
			for _, base := range []uint64{0, 16, 2 * beside, m.Size() - 16, m.Size(), 1 << 41, 1 << 63, top - 15, top - 15 - uint64(16*count(size, grade)-16)} {
				refused(t, m, base+low, size, grade, api.ErrAlign)
			}
		}
	})
}

// TestNewAtTheEndOfWords: a sum that wraps round comes into the memory again, the places do not.
func TestNewAtTheEndOfWords(t *testing.T) {
	each(func(size, grade int) {
		n := uint64(16 * count(size, grade))
		m := filled(t, count(size, grade))
		for _, base := range []uint64{top - 15, top - 31, top - n + 1, top - n - 15, top - n/2 - 15, 1 << 63, 1<<63 - 16, 1 << 60} {
			refused(t, m, base-base%16, size, grade, api.ErrRange)
		}
	})
}

// TestNewNothingSuch: no such size, no such grade, wherever it would be.
func TestNewNothingSuch(t *testing.T) {
	m := filled(t, 8)
	for _, no := range unknown {
		for _, base := range []uint64{0, 16, 8, 1, 1 << 41, 1<<41 + 8, top, top - 15} {
			for _, other := range []int{0, 1, 2, 3, no, -1, 4, math.MaxInt, math.MinInt} {
				refused(t, m, base, no, other, api.ErrArg)
				refused(t, m, base, other, no, api.ErrArg)
			}
		}
	}
}

// TestNewLocksAll: whatever stood there; and no byte beside is touched.
func TestNewLocksAll(t *testing.T) {
	each(func(size, grade int) {
		m, x, p := made(t, size, grade)
		check(t, m, x, p, size, grade)
		for i := range p.at {
			if a, b, _ := m.Pair(beside + uint64(16*i)); a != 0x7fffffffffffffff || b != 0 {
				t.Fatalf("at the place %d stand %x and %x", i, a, b)
			}
		}
		for _, va := range pages(size) {
			finds(t, x, p, va)
		}
	})
}

// TestNewOverEntries: what an earlier one had there is gone.
func TestNewOverEntries(t *testing.T) {
	each(func(size, grade int) {
		m, x, p := made(t, size, grade)
		for _, va := range pages(size) {
			must(t, x.Insert(of(3, size, va)))
		}
		y, e := New(m, beside, size, grade)
		must(t, e)
		check(t, m, y, p)
		check(t, m, x, p)
	})
}

// TestStandsInTheMemory: a TSB keeps nothing beside; two that lie over one another tell the same.
func TestStandsInTheMemory(t *testing.T) {
	m, x, p := made(t, 1, 2)
	y, e := New(m, beside, 1, 2)
	must(t, e)
	a := of(5, 1, 77*65536)
	must(t, x.Insert(a))
	p.insert(a)
	check(t, m, y, p)
	found(t, y, a, []int{5}, []int{4, 6})
	b := a
	b.Pa += 65536
	tag, data := words(b)
	must(t, m.PutPair(beside+16*77, tag, data))
	found(t, x, b, []int{5}, []int{4, 6})
	must(t, m.Clear(beside+16*77, 16))
	found(t, x, b, nil, []int{5})
	if l := x.List(); len(l) != 0 {
		t.Error(l)
	}
}

// P10.2

// TestInsertOrdinary: which words stand then, and where.
func TestInsertOrdinary(t *testing.T) {
	m := memory.New(1 << 20)
	for i, c := range []struct {
		size, grade int
		e           api.Entry
		at          uint64
		tag, data   uint64
	}{
		{0, 0, api.Entry{Ctx: 1, Va: 8192, Pa: 16384, Attr: api.Attr{Write: true}}, 16, 1 << 48, 1<<63 + 16386},
		{0, 3, api.Entry{Va: 0x1ffe000, Pa: 0x1ffffffe000}, 4095 * 16, 7, 0x800001ffffffe000},
		{0, 0, api.Entry{Ctx: 8191, Va: 0xffffffffffffe000}, 511 * 16, 0x1fff0000003fffff, 1 << 63},
		{1, 1, api.Entry{Ctx: 3, Va: 0xfffff80000c30000, Pa: 0x50000}, 0x43 * 16, 0x0003000000200003, 0xa000000000050000},
		{2, 2, api.Entry{Ctx: 2, Va: 33 * 524288, Pa: 524288, Attr: api.Attr{Lock: true, Priv: true}}, 16, 0x0002000000000004, 0xc000000000080044},
		{3, 0, api.Entry{Ctx: 2, Va: 5 * 4194304, Attr: api.Attr{Exec: true}}, 0, 0x0002000000000005, 0xe000000000000008},
		{3, 3, api.Entry{Va: 13 * 4194304, Attr: api.Attr{Global: true, Quiet: true}}, 5 * 16, 0x800000000000000d, 0xf000000000000001},
	} {
		x, e := New(m, 0x40000, c.size, c.grade)
		must(t, e)
		c.e.Valid, c.e.Size = true, c.size
		must(t, x.Insert(c.e))
		if tag, data, _ := m.Pair(0x40000 + c.at); tag != c.tag || data != c.data {
			t.Errorf("%d: %x %x", i, tag, data)
		}
		if l := x.List(); len(l) != 1 || l[0] != c.e || x.Locked() != x.Len()-1 {
			t.Error(i, l, x.Locked())
		}
	}
}

// TestFindContexts: in its own context alone; a Global one in all, and in such as are none.
func TestFindContexts(t *testing.T) {
	each(func(size, grade int) {
		for _, va := range pages(size) {
			m, x, p := made(t, size, grade)
			for _, ctx := range []int{0, 1, 5, 8190, 8191} {
				e := of(ctx, size, va)
				must(t, x.Insert(e))
				p.insert(e)
				check(t, m, x, p, va, ctx)
				found(t, x, e, []int{ctx}, append([]int{ctx - 1, ctx + 1, ctx ^ 4096, ctx + 8192, ctx - 8192, 2, 77}, wrongCtxs...))
			}
			g := global(of(0, size, va))
			must(t, x.Insert(g))
			p.insert(g)
			check(t, m, x, p, va)
			found(t, x, g, append([]int{0, 1, 5, 77, 8190, 8191}, wrongCtxs...), nil)
		}
	})
}

// TestFindOtherAddresses: of the same place, with the same tag, in the hole, and just beside the page.
func TestFindOtherAddresses(t *testing.T) {
	each(func(size, grade int) {
		n, around := bytes[size], bytes[size]*uint64(count(size, grade))
		for _, va := range pages(size) {
			for _, e := range []api.Entry{of(1, size, va), global(of(0, size, va))} {
				_, x, _ := made(t, size, grade)
				must(t, x.Insert(e))
				for _, other := range []uint64{va - 1, va + n, va - n, va + around, va - around, va + 2*around, va ^ 1<<42, va ^ 1<<43, va ^ 1<<44, va ^ 1<<50, va ^ 1<<62, va ^ 1<<63, va ^ holeTo, va ^ 0xfffff00000000000} {
					if f, is := x.Find(other, 1); is || f != (api.Entry{}) {
						t.Errorf("size %d, grade %d: of %#x at %#x: %v", size, grade, va, other, f)
					}
				}
			}
		}
	})
}

// TestFindInTheHole: nothing, whatever stands at its place.
func TestFindInTheHole(t *testing.T) {
	each(func(size, grade int) {
		_, x, _ := made(t, size, grade)
		for _, va := range []uint64{holeFrom, holeFrom + bytes[size], 1 << 44, 1<<44 + 5, 1 << 63, top >> 1, holeTo - 1, holeTo - bytes[size]} {
			low := va % holeFrom
			for _, e := range []api.Entry{of(1, size, low-low%bytes[size]), global(of(0, size, low-low%bytes[size]))} {
				must(t, x.Insert(e))
				if f, is := x.Find(va, 1); is || f != (api.Entry{}) {
					t.Errorf("size %d: %#x: %v", size, va, f)
				}
				found(t, x, e, []int{e.Ctx}, nil)
			}
		}
	})
}

// TestLastInsertedIsFound: of two of one place, the one that came last; also of another context, and the same page once more.
func TestLastInsertedIsFound(t *testing.T) {
	each(func(size, grade int) {
		around := bytes[size] * uint64(count(size, grade))
		m, x, p := made(t, size, grade)
		for i, va := range []uint64{0, around, 5 * around, 0, 0, top - around + 1, 0} {
			for _, e := range []api.Entry{of(i, size, va), of(i+1, size, va), global(of(0, size, va)), of(i+1, size, va)} {
				must(t, x.Insert(e))
				p.insert(e)
				check(t, m, x, p, size, grade, va)
				found(t, x, e, []int{e.Ctx}, nil)
				if l := x.List(); len(l) != 1 || l[0] != e {
					t.Error(size, grade, va, l)
				}
			}
		}
	})
}

// TestLockTouchesTheTagAlone: of an entry's place, of an empty one, of one with words that are nobody's; the data stay.
func TestLockTouchesTheTagAlone(t *testing.T) {
	each(func(size, grade int) {
		m, x, p := made(t, size, grade)
		for i, va := range pages(size) {
			e := of(i%3, size, va)
			must(t, x.Insert(e))
			p.insert(e)
		}
		must(t, m.PutPair(beside, odd, ^odd))
		p.at[0] = [2]uint64{odd, ^odd}
		n := bytes[size]
		for _, va := range append(pages(size), 1, n-1, 3*n+5, 77*n+1, holeFrom+5*n, 1<<44+6*n+1, 1<<63+7*n, top) {
			x.Lock(va)
			p.at[p.place(va)][0] = bad
			check(t, m, x, p, size, grade, va)
			finds(t, x, p, va, size, grade)
			x.Lock(va)
			check(t, m, x, p, size, grade, va)
		}
	})
}

// act is one of the three calls that Insert is made of.
type act int

const (
	lock act = iota
	putData
	putTag
)

// do does it with both.
func do(t *testing.T, a act, x *Tsb, p *plain, e api.Entry) {
	t.Helper()
	tag, data := words(e)
	switch i := p.place(e.Va); a {
	case lock:
		x.Lock(e.Va)
		p.at[i][0] = bad
	case putData:
		must(t, x.PutData(e))
		p.at[i][1] = data
	case putTag:
		must(t, x.PutTag(e))
		p.at[i][0] = tag
	}
}

// rows are all rows of one, two, three and four of them.
func rows() [][]act {
	l := [][]act{{}}
	for from := 0; len(l[from]) < 4; from++ {
		for _, a := range []act{lock, putData, putTag} {
			l = append(l, append(slices.Clone(l[from]), a))
		}
	}
	return l[1:]
}

// TestOneByOne: Lock, PutData and PutTag, each alone and in each row, over an empty place, over an entry, and over two entries in turn; and what Find tells behind each.
func TestOneByOne(t *testing.T) {
	for _, c := range []struct{ size, grade int }{{0, 0}, {1, 3}, {2, 1}, {3, 0}, {3, 3}} {
		around := bytes[c.size] * uint64(count(c.size, c.grade))
		va := 3 * bytes[c.size]
		a, b := of(1, c.size, va), of(2, c.size, va+around)
		other, all := a, global(of(0, c.size, va))
		other.Pa, other.Ctx = 0, 3
		for _, old := range []api.Entry{{}, a, b, other, all} {
			for _, row := range rows() {
				for _, two := range [][2]api.Entry{{a, a}, {a, b}, {a, other}, {all, a}, {b, all}} {
					m, x, p := made(t, c.size, c.grade)
					if old.Valid {
						must(t, x.Insert(old))
						p.insert(old)
					}
					for i, what := range row {
						do(t, what, x, p, two[i%2])
						for _, at := range []uint64{va, va + around} {
							finds(t, x, p, at, old, row[:i+1], two)
						}
					}
					stands(t, m, p, old, row, two)
				}
			}
		}
	}
}

// TestInsertIsItsRow: as Lock, PutData and PutTag, whatever stood there.
func TestInsertIsItsRow(t *testing.T) {
	each(func(size, grade int) {
		m, x, p := made(t, size, grade)
		_, y, _ := made(t, size, grade)
		for i, va := range pages(size) {
			e := of(i, size, va)
			must(t, x.Insert(e))
			for _, a := range []act{lock, putData, putTag} {
				do(t, a, y, p, e)
			}
			check(t, m, x, p, size, grade, va)
			tells(t, y, p)
		}
	})
}

// TestDataAloneIsNothing: an entry's data beside another one's tag, written out.
func TestDataAloneIsNothing(t *testing.T) {
	_, x, _ := made(t, 0, 0)
	a := api.Entry{Valid: true, Ctx: 1, Va: 8192, Pa: 8192}
	b := api.Entry{Valid: true, Ctx: 2, Va: 8192 + 4194304, Pa: 16384}
	must(t, x.PutData(a))
	found(t, x, a, nil, []int{0, 1, 2})
	must(t, x.PutTag(b)) // b's tag, a's data: of b's address and context, at a's frames
	found(t, x, a, nil, []int{0, 1, 2})
	mixed := b
	mixed.Pa = 8192
	found(t, x, mixed, []int{2}, []int{0, 1})
	must(t, x.PutTag(global(a))) // Global in the tag alone
	found(t, x, a, nil, []int{0, 1, 2})
	must(t, x.PutTag(a))
	found(t, x, a, []int{1}, []int{0, 2})
	must(t, x.PutData(global(a))) // and in the data alone
	found(t, x, a, nil, []int{0, 1, 2})
	if l := x.List(); len(l) != 0 {
		t.Error(l)
	}
}

// TestWordsOfSomebody: each bit of a tag and of data, turned in the memory.
func TestWordsOfSomebody(t *testing.T) {
	each(func(size, grade int) {
		m, x, p := made(t, size, grade)
		for _, e := range []api.Entry{of(5, size, 9*4194304+5*bytes[size]), of(0, size, top-4194304+1), global(of(0, size, 0))} {
			tag, data := words(e)
			i := p.place(e.Va)
			for bit := range 128 {
				w := [2]uint64{tag, data}
				w[bit/64] ^= 1 << (bit % 64)
				p.at[i] = w
				must(t, m.PutPair(beside+uint64(16*i), w[0], w[1]))
				for _, va := range []uint64{e.Va, e.Va + bytes[size] - 1, e.Va + 4194304, e.Va ^ 1<<42} {
					finds(t, x, p, va, size, grade, bit)
				}
				if bit >= 64 || grade == 3 {
					tells(t, x, p, size, grade, bit)
				}
			}
		}
	})
}

// TestWordsOfOtherSizes: an entry's words whose size is another one are nothing, though the address has that place.
func TestWordsOfOtherSizes(t *testing.T) {
	each(func(size, grade int) {
		m, x, p := made(t, size, grade)
		for other := range bytes {
			e := of(5, other, 4194304*16)
			tag, data := words(e)
			p.at[0] = [2]uint64{tag, data}
			must(t, m.PutPair(beside, tag, data))
			f, is := x.Find(e.Va, 5)
			if is != (other == size) || is && f != e || !is && f != (api.Entry{}) {
				t.Error(size, grade, other, f, is)
			}
			check(t, m, x, p, size, grade, other)
			if n := x.DropContext(5); (n == 1) != is {
				t.Error(size, grade, other, n)
			}
			if is {
				p.drop(0)
			}
			if x.Drop(e.Va, 5) {
				t.Error(size, grade, other)
			}
			check(t, m, x, p, size, grade, other)
		}
	})
}

// TestWrongEntries: ErrArg, and nothing is changed, of each of the three.
func TestWrongEntries(t *testing.T) {
	each(func(size, grade int) {
		m, x, p := made(t, size, grade)
		for i, va := range pages(size) {
			e := of(i%3, size, va)
			must(t, x.Insert(e))
			p.insert(e)
		}
		l := wrongEntries()
		for other := range bytes {
			if other != size {
				l = append(l, of(1, other, 0), of(1, other, 4194304), of(1, other, top-4194304+1), global(of(0, other, 0)))
			}
		}
		for i, e := range l {
			if a, b, c := x.PutData(e), x.PutTag(e), x.Insert(e); a != api.ErrArg || b != api.ErrArg || c != api.ErrArg {
				t.Error(size, grade, i, e, a, b, c)
			}
			stands(t, m, p, size, grade, i, e)
		}
		check(t, m, x, p, size, grade)
	})
}

// P10.3

func TestDrop(t *testing.T) {
	each(func(size, grade int) {
		m, x, p := made(t, size, grade)
		around := bytes[size] * uint64(count(size, grade))
		for _, va := range pages(size) {
			for _, e := range []api.Entry{of(1, size, va), of(0, size, va), global(of(0, size, va))} {
				must(t, x.Insert(e))
				p.insert(e)
				others := []int{2, 8191, -1, 8192, math.MinInt, math.MaxInt, e.Ctx + 8192}
				if e.Attr.Global {
					others = nil
				}
				for _, ctx := range others {
					if x.Drop(va, ctx) {
						t.Errorf("Drop(%#x, %d)", va, ctx)
					}
				}
				for _, other := range []uint64{va - 1, va + bytes[size], va + around, va ^ 1<<50, va ^ 1<<63, va ^ holeTo} {
					if at := p.place(other); at == p.place(va) && x.Drop(other, e.Ctx) {
						t.Errorf("Drop(%#x, %d): there is %#x", other, e.Ctx, va)
					}
				}
				check(t, m, x, p, size, grade, e)
				ctx := e.Ctx
				if e.Attr.Global {
					ctx = 77
				}
				for _, want := range []bool{true, false} {
					if x.Drop(va+bytes[size]/2, ctx) != want {
						t.Errorf("Drop(%#x, %d) is not %v", va, ctx, want)
					}
					p.drop(p.place(va))
					check(t, m, x, p, size, grade, e)
				}
			}
		}
	})
}

// TestDropGlobalInWrongContexts: a Global one is found there, and goes.
func TestDropGlobalInWrongContexts(t *testing.T) {
	m, x, p := made(t, 0, 0)
	for _, ctx := range append([]int{0, 1, 8191}, wrongCtxs...) {
		must(t, x.Insert(global(of(0, 0, 8192))))
		if !x.Drop(8193, ctx) || x.Drop(8193, ctx) {
			t.Error(ctx)
		}
		check(t, m, x, p, ctx)
	}
}

// TestDropLeavesWordsOfNobody: what is no entry stays, word by word.
func TestDropLeavesWordsOfNobody(t *testing.T) {
	m, x, p := made(t, 0, 0)
	tag, data := words(of(5, 0, 8192))
	for _, w := range [][2]uint64{{bad, data}, {tag, 0}, {tag, data - 1<<63}, {tag ^ 1<<62, data}, {tag, data ^ 1<<4}, {0, 0}, {odd, odd}, {top, top}} {
		p.at[1] = w
		must(t, m.PutPair(beside+16, w[0], w[1]))
		if x.Drop(8192, 5) || x.Drop(8192, 0) || x.DropContext(5) != 0 {
			t.Errorf("%x", w)
		}
		check(t, m, x, p)
	}
}

// TestDropAroundTheHole: of an address in the hole nothing goes, though the place is an entry's.
func TestDropAroundTheHole(t *testing.T) {
	m, x, p := made(t, 1, 1)
	g := global(of(0, 1, 5*65536))
	must(t, x.Insert(g))
	p.insert(g)
	for _, va := range []uint64{holeFrom + 5*65536, 1<<44 + 5*65536, 1<<63 + 5*65536} {
		if p.place(va) != 5 || x.Drop(va, 0) {
			t.Errorf("%#x", va)
		}
	}
	check(t, m, x, p)
}

// spread lays entries of the contexts 0 to 3, and Global ones, at each third place or so.
func spread(t *testing.T, x *Tsb, p *plain) {
	t.Helper()
	for i := range len(p.at) {
		e := of(i%4, p.size, uint64(i)*bytes[p.size]+uint64(i%3)*uint64(len(p.at))*bytes[p.size])
		switch {
		case i%5 == 4:
			e = global(e)
		case i%7 == 2:
			continue
		}
		must(t, x.Insert(e))
		p.insert(e)
	}
}

func TestDropContext(t *testing.T) {
	each(func(size, grade int) {
		m, x, p := made(t, size, grade)
		spread(t, x, p)
		check(t, m, x, p, size, grade)
		for _, ctx := range append(append([]int{4, 77, 8191}, wrongCtxs...), 2, 2, 0, 0, 1, 3, 3, 0) {
			want := p.dropContext(ctx)
			if n := x.DropContext(ctx); n != want {
				t.Error(size, grade, ctx, n, want)
			}
			check(t, m, x, p, size, grade, ctx)
		}
		for _, e := range x.List() {
			if !e.Attr.Global {
				t.Error(size, grade, e)
			}
		}
	})
}

// TestDropContextBesideGlobal: written out; the context 0 is a Global entry's too, and yet it stays.
func TestDropContextBesideGlobal(t *testing.T) {
	m, x, p := made(t, 0, 0)
	g, a, b, c := global(of(0, 0, 8192)), of(0, 0, 0), of(0, 0, top-8191), of(1, 0, 2*8192)
	for _, e := range []api.Entry{g, a, b, c} {
		must(t, x.Insert(e))
	}
	p.insert(g)
	p.insert(c)
	if n := x.DropContext(0); n != 2 {
		t.Error(n)
	}
	check(t, m, x, p)
	if n := x.DropContext(1); n != 1 {
		t.Error(n)
	}
	if l := x.List(); len(l) != 1 || l[0] != g || x.Locked() != 511 {
		t.Error(l)
	}
}

// TestDropContextAsListTells: an entry whose address has another place is none, and stays.
func TestDropContextAsListTells(t *testing.T) {
	m, x, p := made(t, 1, 1)
	e := of(5, 1, 3*65536)
	tag, data := words(e)
	i := 3 + 64 // the place of the tag 1, 3, .. alone
	p.at[i] = [2]uint64{tag, data}
	must(t, m.PutPair(beside+uint64(16*i), tag, data))
	if n := x.DropContext(5); n != 0 || len(x.List()) != 0 {
		t.Error(n, x.List())
	}
	check(t, m, x, p)
	must(t, x.Insert(e))
	if n := x.DropContext(5); n != 1 {
		t.Error(n)
	}
	check(t, m, x, p)
}

// TestClear: whatever stood there, and no byte beside.
func TestClear(t *testing.T) {
	each(func(size, grade int) {
		m, x, p := made(t, size, grade)
		x.Clear()
		check(t, m, x, p, size, grade)
		spread(t, x, p)
		p.clear()
		x.Clear()
		check(t, m, x, p, size, grade)
		for i := range p.at {
			must(t, m.PutPair(beside+uint64(16*i), odd, uint64(i)))
		}
		x.Clear()
		check(t, m, x, p, size, grade)
		for i := range p.at {
			must(t, m.PutPair(beside+uint64(16*i), bad, top))
		}
		x.Clear()
		check(t, m, x, p, size, grade)
	})
}

// P10.4

// TestListOfEachPlace: as places rise, whatever the row in which they were inserted, the addresses and the tags.
func TestListOfEachPlace(t *testing.T) {
	each(func(size, grade int) {
		m, x, p := made(t, size, grade)
		n := uint64(count(size, grade))
		var want []api.Entry
		for i := range n {
			// Addresses fall while places rise, as far as they may.
			e := of(int(i)%9, size, (n-i)*n*16*bytes[size]+i*bytes[size])
			if i%3 == 1 {
				e.Va += holeTo
			}
			if i%4 == 2 {
				e = global(e)
			}
			want = append(want, e)
		}
		row := rand.New(rand.NewSource(10)).Perm(len(want))
		for _, i := range row {
			must(t, x.Insert(want[i]))
			p.insert(want[i])
		}
		if l := x.List(); !slices.Equal(l, want) {
			t.Error(size, grade, l)
		}
		check(t, m, x, p, size, grade)
		if x.Locked() != 0 {
			t.Error(x.Locked())
		}
	})
}

// TestListAtTheEnds: the lowest and the highest pages, and those beside the hole.
func TestListAtTheEnds(t *testing.T) {
	each(func(size, grade int) {
		for _, va := range pages(size) {
			m, x, p := made(t, size, grade)
			e := of(8191, size, va)
			must(t, x.Insert(e))
			p.insert(e)
			if l := x.List(); len(l) != 1 || l[0] != e {
				t.Errorf("size %d, grade %d: %#x: %v", size, grade, va, l)
			}
			check(t, m, x, p)
			if n := x.DropContext(8191); n != 1 {
				t.Error(size, grade, va, n)
			}
		}
	})
}

// TestListWrittenOut: of words that stand at a place, the address that these and the place tell.
func TestListWrittenOut(t *testing.T) {
	for i, c := range []struct {
		size, grade, place int
		tag                uint64
		want               uint64
		is                 bool
	}{
		{0, 0, 0, 0, 0, true},
		{0, 0, 1, 0, 8192, true},
		{0, 0, 511, 5, 5*4194304 + 511*8192, true},
		{0, 0, 511, 0x3fffff, top - 8191, true},
		{0, 0, 0, 0x200000, holeTo, true},
		{0, 0, 511, 0x1fffff, holeFrom - 8192, true},
		{0, 1, 512, 0, 0, false}, // of the tag 0 there are the places 0 to 511
		{0, 1, 511, 0, 511 * 8192, true},
		{0, 1, 512, 1, 4194304, true},
		{0, 1, 511, 1, 0, false},
		{0, 3, 4095, 7, 8*4194304 - 8192, true},
		{0, 3, 4095, 15, 16*4194304 - 8192, true},
		{0, 3, 4095, 3, 0, false},
		{0, 3, 4095, 6, 0, false},
		{1, 0, 63, 2, 3*4194304 - 65536, true},
		{1, 2, 64, 1, 4194304, true},
		{1, 2, 64, 5, 5 * 4194304, true},
		{1, 2, 64, 2, 0, false},
		{2, 1, 15, 1, 2*4194304 - 524288, true},
		{2, 1, 15, 0, 0, false},
		{3, 0, 0, 77, 77 * 4194304, true},
		{3, 0, 0, 0x3fffff, top - 4194303, true},
		{3, 3, 5, 13, 13 * 4194304, true},
		{3, 3, 5, 12, 0, false},
		{3, 3, 0, 0x200000, holeTo, true},
	} {
		m, x, _ := made(t, c.size, c.grade)
		data := uint64(1)<<63 + uint64(c.size)<<61
		must(t, m.PutPair(beside+uint64(16*c.place), 9<<48+c.tag, data))
		want := api.Entry{Valid: true, Ctx: 9, Size: c.size, Va: c.want}
		l := x.List()
		if c.is && (len(l) != 1 || l[0] != want) || !c.is && len(l) != 0 {
			t.Error(i, l)
		}
		if n := x.DropContext(9); (n == 1) != c.is {
			t.Error(i, n)
		}
	}
}

// TestListOfOtherPlaces: an entry's words at each place: List has it at its own alone.
func TestListOfOtherPlaces(t *testing.T) {
	each(func(size, grade int) {
		e := of(3, size, holeTo+4194304*5+3*bytes[size])
		tag, data := words(e)
		m, x, p := made(t, size, grade)
		within := uint64(4194304) / bytes[size]
		for i := range p.at {
			if len(p.at) > 512 && i%509 > 3 && i%512 > 1 && i%512 < 511 {
				continue // there are many
			}
			p.clear()
			p.at[i] = [2]uint64{tag, data}
			x.Clear()
			must(t, m.PutPair(beside+uint64(16*i), tag, data))
			want, _ := p.list()
			if l := x.List(); !slices.Equal(l, want) {
				t.Fatal(size, grade, i, l, want)
			}
			// It is another page's, of the same tag, where the place is one of these.
			first := p.place(e.Va - e.Va%4194304)
			if is := i >= first && i < first+int(within); is != (len(want) == 1) {
				t.Fatal(size, grade, i, want)
			}
			finds(t, x, p, e.Va, size, grade, i)
		}
	})
}

// TestListIsNew: what is done to a list is not done to the TSB, nor to another list.
func TestListIsNew(t *testing.T) {
	m, x, p := made(t, 2, 1)
	spread(t, x, p)
	one, two := x.List(), x.List()
	want := slices.Clone(one)
	clear(one)
	one = append(one[:1], of(1, 2, 0), of(1, 2, 0))
	if !slices.Equal(two, want) || len(one) != 3 {
		t.Error(two)
	}
	check(t, m, x, p)
}

// TestListChangesNothing: words of nobody stay, and are told each time as they are.
func TestListChangesNothing(t *testing.T) {
	m, x, p := made(t, 0, 1)
	spread(t, x, p)
	must(t, m.PutPair(beside, odd, ^odd), m.PutPair(beside+16, 5, 1<<63))
	p.at[0], p.at[1] = [2]uint64{odd, ^odd}, [2]uint64{5, 1 << 63}
	for range 3 {
		check(t, m, x, p)
	}
}

func TestLocked(t *testing.T) {
	each(func(size, grade int) {
		m, x, p := made(t, size, grade)
		n := len(p.at)
		if x.Locked() != n {
			t.Error(x.Locked())
		}
		for i := range n {
			must(t, x.PutTag(of(1, size, uint64(i)*bytes[size])))
			if x.Locked() != n-1-i {
				t.Fatal(size, grade, i, x.Locked())
			}
		}
		// Tags that are nobody's are not Bad's.
		for bit := range 64 {
			must(t, m.PutWord(beside, bad^1<<bit))
			if x.Locked() != 0 {
				t.Error(bit)
			}
		}
		for i := range n {
			x.Lock(uint64(n-1-i) * bytes[size])
			if x.Locked() != i+1 {
				t.Fatal(size, grade, i, x.Locked())
			}
		}
	})
}

// TestLockedGoesByTheTag: whatever the data are.
func TestLockedGoesByTheTag(t *testing.T) {
	m, x, p := made(t, 3, 3)
	for i, data := range []uint64{1 << 63, top, 0, 5} {
		p.at[i] = [2]uint64{bad, data}
		must(t, m.PutPair(beside+uint64(16*i), bad, data))
	}
	p.at[5] = [2]uint64{0, bad}
	must(t, m.PutPair(beside+5*16, 0, bad))
	if x.Locked() != 7 {
		t.Error(x.Locked())
	}
	check(t, m, x, p)
}

// into is what Into does, with lists.
func (p *plain) into(o *plain) int {
	l, _ := p.list()
	n := 0
	for _, e := range l {
		if e.Size == o.size {
			o.insert(e)
			n++
		}
	}
	return n
}

// TestIntoOtherGrades: of each grade into each: how many, and what stands there.
func TestIntoOtherGrades(t *testing.T) {
	each(func(size, from int) {
		for to := range 4 {
			m, x, p := made(t, size, from)
			o, y, q := made(t, size, to)
			spread(t, x, p)
			must(t, y.Insert(of(8, size, 0)), y.Insert(of(8, size, top-bytes[size]+1)))
			q.insert(of(8, size, 0))
			q.insert(of(8, size, top-bytes[size]+1))
			want := p.into(q)
			if n := x.Into(y); n != want || n != len(x.List()) {
				t.Error(size, from, to, n, want)
			}
			check(t, m, x, p, size, from, to)
			check(t, o, y, q, size, from, to)
			if to >= from {
				for _, e := range x.List() {
					found(t, y, e, []int{e.Ctx}, nil)
				}
			}
		}
	})
}

// TestIntoOnePlace: where two entries come to one place, the one of the higher place stands there; both were told OK.
func TestIntoOnePlace(t *testing.T) {
	_, x, _ := made(t, 0, 1)
	_, y, _ := made(t, 0, 0)
	low, high := of(1, 0, 3*8192), of(2, 0, 3*8192+4194304)
	must(t, x.Insert(high), x.Insert(low))
	if n := x.Into(y); n != 2 {
		t.Error(n)
	}
	if l := y.List(); len(l) != 1 || l[0] != high {
		t.Error(l)
	}
	// The row is that of the places, not of the addresses.
	high.Va, low.Va = 3*8192+4194304, 3*8192+8*4194304
	x.Clear()
	must(t, x.Insert(high), x.Insert(low))
	if n := x.Into(y); n != 2 {
		t.Error(n)
	}
	if l := y.List(); len(l) != 1 || l[0] != high {
		t.Error(l)
	}
}

// TestIntoAnotherSize: nothing is inserted, nothing changed.
func TestIntoAnotherSize(t *testing.T) {
	for size := range bytes {
		for other := range bytes {
			if other == size {
				continue
			}
			m, x, p := made(t, size, 1)
			o, y, q := made(t, other, 1)
			spread(t, x, p)
			spread(t, y, q)
			if n := x.Into(y); n != 0 {
				t.Error(size, other, n)
			}
			check(t, m, x, p, size, other)
			check(t, o, y, q, size, other)
		}
	}
}

// TestIntoItself: all stays, and all are told OK; words of nobody stay too.
func TestIntoItself(t *testing.T) {
	each(func(size, grade int) {
		m, x, p := made(t, size, grade)
		if n := x.Into(x); n != 0 {
			t.Error(n)
		}
		spread(t, x, p)
		if n := x.Into(x); n != len(x.List()) || n == 0 {
			t.Error(size, grade, n)
		}
		check(t, m, x, p, size, grade)
		p.at[0] = [2]uint64{odd, odd}
		must(t, m.PutPair(beside, odd, odd))
		if n := x.Into(x); n != len(x.List()) {
			t.Error(size, grade, n)
		}
		check(t, m, x, p, size, grade)
	})
}

// TestIntoOver: where both lie over one another, all that List tells is inserted, not what comes to stand there.
func TestIntoOver(t *testing.T) {
	m := memory.New(64)
	y, e := New(m, 16, 3, 1)
	must(t, e)
	x, e := New(m, 0, 3, 1)
	must(t, e)
	// x's place 1 is y's place 0: what comes from x's place 0 goes there.
	a, b := of(1, 3, 2*4194304), of(2, 3, 3*4194304)
	must(t, x.Insert(a), x.Insert(b))
	if n := x.Into(y); n != 2 {
		t.Error(n)
	}
	if l := y.List(); !slices.Equal(l, []api.Entry{a, b}) {
		t.Error(l)
	}
}

// TestIntoNothing ends, and does not panic.
func TestIntoNothing(t *testing.T) {
	m, x, p := made(t, 1, 0)
	spread(t, x, p)
	if n := x.Into(nil); n != 0 {
		t.Error(n)
	}
	check(t, m, x, p)
}

// P10.5

// randomEntry is one of the size, of few contexts, on few places, at pages of both sides of the hole.
func randomEntry(r *rand.Rand, size, places int) api.Entry {
	n := bytes[size]
	va := (uint64(r.Intn(places)) + uint64(places*r.Intn(4))) * n
	switch r.Intn(3) {
	case 0:
		va += holeTo
	case 1:
		va = top - va - n + 1
	}
	e := api.Entry{Valid: true, Size: size, Ctx: r.Intn(4), Va: va, Pa: uint64(r.Intn(1<<19)) * 4194304}
	e.Attr = api.Attr{Write: r.Intn(2) == 0, Priv: r.Intn(2) == 0, Exec: r.Intn(2) == 0, Lock: r.Intn(2) == 0, Quiet: r.Intn(2) == 0}
	if r.Intn(5) == 0 {
		e = global(e)
	}
	return e
}

// TestInsertedAlone: of rows of Insert, Drop, DropContext and Lock: at each place the last one that was inserted, and is not gone, is found; nothing that was not inserted ever is.
func TestInsertedAlone(t *testing.T) {
	each(func(size, grade int) {
		r := rand.New(rand.NewSource(int64(10*size + grade)))
		_, x, p := made(t, size, grade)
		last := map[int]api.Entry{} // by places
		for range 3000 {
			e := randomEntry(r, size, len(p.at))
			i := p.place(e.Va)
			switch r.Intn(8) {
			case 0:
				was, is := last[i]
				hit := is && was.Va == e.Va && (was.Attr.Global || was.Ctx == e.Ctx)
				if x.Drop(e.Va, e.Ctx) != hit {
					t.Fatal("Drop", e, was)
				}
				if hit {
					delete(last, i)
				}
			case 1:
				x.Lock(e.Va)
				delete(last, i)
			case 2:
				if r.Intn(20) == 0 {
					x.DropContext(e.Ctx)
					for j, was := range last {
						if was.Ctx == e.Ctx && !was.Attr.Global {
							delete(last, j)
						}
					}
				}
			default:
				must(t, x.Insert(e))
				last[i] = e
			}
			was, is := last[i]
			if l, f := x.Find(was.Va, was.Ctx); is && (l != was || !f) {
				t.Fatal("Find", was, l, f)
			}
			ask := randomEntry(r, size, len(p.at))
			was, is = last[p.place(ask.Va)]
			is = is && was.Va == ask.Va && (was.Attr.Global || was.Ctx == ask.Ctx)
			if f, there := x.Find(ask.Va+uint64(r.Intn(8192)), ask.Ctx); there != is || is && f != was {
				t.Fatal("Find", ask, f, was)
			}
		}
		l := x.List()
		if len(l) != len(last) || x.Locked() != len(p.at)-len(last) {
			t.Error(size, grade, len(l), len(last), x.Locked())
		}
		for _, e := range l {
			if last[p.place(e.Va)] != e {
				t.Error(size, grade, e)
			}
		}
	})
}

// TestAgainstLists: rows of all calls, with words that somebody writes between, held against lists.
func TestAgainstLists(t *testing.T) {
	each(func(size, grade int) {
		r := rand.New(rand.NewSource(int64(100 + 10*size + grade)))
		m, x, p := made(t, size, grade)
		for i := range 600 {
			e := randomEntry(r, size, len(p.at))
			at := p.place(e.Va)
			tag, data := words(e)
			switch r.Intn(9) {
			case 0, 1:
				must(t, x.Insert(e))
				p.insert(e)
			case 2, 3, 4:
				do(t, act(r.Intn(3)), x, p, e)
			case 5:
				_, want := p.find(e.Va, e.Ctx)
				if x.Drop(e.Va, e.Ctx) != want {
					t.Fatal("Drop", e)
				}
				if want {
					p.drop(at)
				}
			case 6:
				if n, want := x.DropContext(e.Ctx), p.dropContext(e.Ctx); n != want {
					t.Fatal("DropContext", n, want)
				}
			case 7:
				at = r.Intn(len(p.at))
				p.at[at] = [2]uint64{tag, data}
				must(t, m.PutPair(beside+uint64(16*at), tag, data))
			case 8:
				bit := r.Intn(128)
				p.at[at][bit/64] ^= 1 << (bit % 64)
				must(t, m.PutPair(beside+uint64(16*at), p.at[at][0], p.at[at][1]))
			}
			finds(t, x, p, e.Va+uint64(r.Intn(8192)), size, grade, i)
			if i%20 == 0 {
				check(t, m, x, p, size, grade, i)
			}
		}
		check(t, m, x, p, size, grade)
	})
}

// TestTwoInOneMemory: what is done to one is not done to the other one beside it.
func TestTwoInOneMemory(t *testing.T) {
	for size := range bytes {
		m := filled(t, 3*count(size, 1))
		one, e := New(m, beside, size, 1)
		must(t, e)
		end := beside + uint64(16*count(size, 1))
		two, e := New(m, end, size, 0)
		must(t, e)
		p, q := empty(beside, size, 1), empty(end, size, 0)
		said := fmt.Sprint("size ", size)
		spread(t, one, p)
		stands(t, m, q, said)
		spread(t, two, q)
		stands(t, m, p, said)
		one.DropContext(1)
		p.dropContext(1)
		tells(t, two, q, said)
		two.Clear()
		q.clear()
		tells(t, one, p, said)
		stands(t, m, p, said)
		stands(t, m, q, said)
	}
}
