package tlb

import (
	"math"
	"math/rand"
	"slices"
	"testing"

	"lookaside/api"
)

const (
	top      = ^uint64(0)
	holeFrom = uint64(1) << 43            // the first address in the hole
	holeTo   = uint64(0xfffff80000000000) // the first one behind it
	most     = 64                         // the greatest number of places
)

// bytes are the pages' bytes, written out; what the tests hold the package against is made of them by adding and comparing.
var bytes = []uint64{8192, 65536, 524288, 4194304}

// edgeInts are numbers that are no place.
var edgeInts = []int{math.MinInt, math.MinInt + 1, -1 << 62, -1 << 32, -8192, -most, -2, -1, most, most + 1, 1 << 10, 8191, 8192, 1 << 32, 1 << 62, math.MaxInt - 1, math.MaxInt}

// fewPicks and picks are of both signs, and far out.
var fewPicks = []int{0, 1, -1, math.MaxInt, math.MinInt}

var picks = []int{0, 1, 2, 3, 4, 5, 6, 7, 63, 64, 65, 1000, -1, -2, -3, -4, -5, -6, -7, -64, -65, -1000, 1 << 32, -1 << 32, 1 << 62, -1 << 62, math.MaxInt, math.MaxInt - 1, math.MaxInt - 2, math.MinInt, math.MinInt + 1, math.MinInt + 2}

// of is an entry of a context, a size and an address, with other frames the greater these are.
func of(ctx, size int, va uint64) api.Entry {
	return api.Entry{Valid: true, Ctx: ctx, Size: size, Va: va, Pa: uint64(ctx%8+1) * 4194304}
}

// locked and global are an entry with Lock, and with Global (of the context 0).
func locked(e api.Entry) api.Entry {
	e.Attr.Lock = true
	return e
}

func global(e api.Entry) api.Entry {
	e.Attr.Global, e.Ctx = true, 0
	return e
}

// wrongEntries are such as may not be; each but the first ones lacks one thing.
func wrongEntries() []api.Entry {
	l := []api.Entry{{}, {Size: 1, Ctx: 5, Va: 65536}}
	not := of(1, 0, 8192)
	not.Valid = false
	l = append(l, not)
	for _, size := range []int{math.MinInt, -1, 4, 64, math.MaxInt} {
		l = append(l, of(1, size, 0))
	}
	for _, ctx := range []int{math.MinInt, -8192, -1, 8192, 16384, math.MaxInt} {
		l = append(l, of(ctx, 0, 8192))
		l[len(l)-1].Pa = 0
	}
	for _, ctx := range []int{math.MinInt, -1, 1, 8191, math.MaxInt} {
		e := global(of(1, 0, 8192))
		e.Ctx = ctx
		l = append(l, e)
	}
	for size, n := range bytes {
		for _, va := range []uint64{1, n / 2, n - 1, n + 1, top, holeFrom, holeFrom + n, 1 << 44, 1 << 63, holeTo - n} {
			l = append(l, of(1, size, va))
		}
		for _, pa := range []uint64{1, n / 2, n - 1, 1 << 41, 1<<41 + n, top - n + 1} {
			e := of(1, size, n)
			e.Pa = pa
			l = append(l, e)
		}
	}
	return l
}

// ends are the first and the last address of an entry.
func ends(e api.Entry) (uint64, uint64) { return e.Va, e.Va + (bytes[e.Size] - 1) }

// part tells of two entries that may be whether they part, by the ends of their pages.
func part(a, b api.Entry) bool {
	firstA, lastA := ends(a)
	firstB, lastB := ends(b)
	meet := firstA <= lastB && firstB <= lastA
	return !meet || a.Ctx != b.Ctx && !a.Attr.Global && !b.Attr.Global
}

// hits tells whether an entry is there, and an address's in a context.
func hits(e api.Entry, va uint64, ctx int) bool {
	if !e.Valid {
		return false
	}
	first, last := ends(e)
	return first <= va && va <= last && (e.Attr.Global || e.Ctx == ctx)
}

// plain is a TLB's places, empty ones with the zero entry: what the tests hold the package against.
type plain []api.Entry

func (p plain) list() []api.Entry {
	return slices.DeleteFunc(slices.Clone(p), func(e api.Entry) bool { return !e.Valid })
}

func (p plain) locked() int {
	n := 0
	for _, e := range p {
		if e.Attr.Lock {
			n++
		}
	}
	return n
}

func (p plain) find(va uint64, ctx int) (api.Entry, int) {
	for i, e := range p {
		if hits(e, va, ctx) {
			return e, i
		}
	}
	return api.Entry{}, -1
}

// put is of an entry that may be.
func (p plain) put(i int, e api.Entry) api.Errno {
	if i < 0 || i >= len(p) {
		return api.ErrRange
	}
	if p.inWay(e, i) {
		return api.ErrExist
	}
	p[i] = e
	return api.OK
}

// inWay tells whether an entry at another place than i does not part from e.
func (p plain) inWay(e api.Entry, i int) bool {
	for j := range p {
		if j != i && p[j].Valid && !part(p[j], e) {
			return true
		}
	}
	return false
}

// insert is of an entry that may be; it goes by the promise's words: all that is to go goes in a copy, which is thrown away if there is no place.
func (p plain) insert(e api.Entry, pick int) (int, api.Errno) {
	try := slices.Clone(p)
	for i, x := range p {
		if !x.Valid || part(x, e) {
			continue
		}
		if x.Attr.Lock {
			return 0, api.ErrLocked
		}
		try[i] = api.Entry{}
	}
	empty, open := []int{}, []int{}
	for i, x := range try {
		if !x.Valid {
			empty = append(empty, i)
		} else if !x.Attr.Lock {
			open = append(open, i)
		}
	}
	i := 0
	switch {
	case len(empty) > 0:
		i = empty[0]
	case len(open) == 0:
		return 0, api.ErrLocked
	case pick >= 0:
		i = open[uint64(pick)%uint64(len(open))]
	default:
		i = open[uint64(-(pick+1))%uint64(len(open))]
	}
	copy(p, try)
	p[i] = e
	return i, api.OK
}

// drop makes places empty, and tells how many were not.
func (p plain) drop(goes func(e api.Entry) bool) int {
	n := 0
	for i, e := range p {
		if e.Valid && goes(e) {
			p[i] = api.Entry{}
			n++
		}
	}
	return n
}

// check asserts that a TLB is as it must be, by all calls that tell of it.
func check(t *testing.T, x *Tlb, p plain, said ...any) {
	t.Helper()
	if x.Slots() != len(p) || x.Locked() != p.locked() {
		t.Fatal(said, "Slots", x.Slots(), "Locked", x.Locked(), "want", len(p), p.locked())
	}
	if got, want := x.List(), p.list(); !slices.Equal(got, want) {
		t.Fatal(said, "List", got, "want", want)
	}
	for i, want := range p {
		if e, is := x.At(i); e != want || is != want.Valid {
			t.Fatal(said, "At", i, e, is, "want", want)
		}
	}
	for _, i := range []int{-1, len(p), math.MinInt, math.MaxInt} {
		if e, is := x.At(i); e != (api.Entry{}) || is {
			t.Fatal(said, "At", i, e, is)
		}
	}
	for _, e := range p.list() {
		first, last := ends(e)
		for _, va := range []uint64{first - 1, first, first + bytes[e.Size]/2, last, last + 1} {
			for _, ctx := range []int{e.Ctx, e.Ctx + 1, 0, -1} {
				want, at := p.find(va, ctx)
				if got, i := x.Find(va, ctx); got != want || i != at {
					t.Fatalf("%v: Find(%#x, %d): %+v at %d, want %+v at %d", said, va, ctx, got, i, want, at)
				}
			}
		}
	}
}

// laid is a TLB with entries at places, empty where they are the zero one.
func laid(t *testing.T, p plain) *Tlb {
	t.Helper()
	x := New(len(p))
	for i, e := range p {
		if e.Valid {
			must(t, x.Put(i, e))
		}
	}
	check(t, x, p, "laid")
	return x
}

// must asserts that a call was told OK.
func must(t *testing.T, e api.Errno) {
	t.Helper()
	if e != api.OK {
		t.Fatal("told", e)
	}
}

// full is n entries of the context 1 that part, one behind the other from an address on, of which so many have Lock.
func full(n int, lock func(i int) bool) plain {
	p := make(plain, n)
	for i := range p {
		p[i] = of(1, 0, 0x40000000+uint64(i)*8192)
		p[i].Attr.Lock = lock(i)
	}
	return p
}

func none(int) bool  { return false }
func every(int) bool { return true }

// P6.1

func TestNew(t *testing.T) {
	for _, c := range []struct{ n, want int }{
		{0, 1}, {1, 1}, {2, 2}, {3, 3}, {32, 32}, {63, 63}, {64, 64}, {65, 64}, {66, 64}, {128, 64}, {8192, 64}, {1 << 32, 64}, {1<<32 + 1, 64}, {1 << 62, 64}, {math.MaxInt - 1, 64}, {math.MaxInt, 64},
		{-1, 1}, {-2, 1}, {-64, 1}, {-1 << 32, 1}, {-1<<32 + 2, 1}, {-1 << 62, 1}, {math.MinInt + 1, 1}, {math.MinInt, 1},
	} {
		x := New(c.n)
		check(t, x, make(plain, c.want), "New", c.n)
		if len(x.List()) != 0 || x.Locked() != 0 || x.DemapAll() != 0 || x.Clear(0) {
			t.Error("New", c.n, "is not empty")
		}
		for _, va := range []uint64{0, 8191, 8192, holeFrom, top} {
			if e, i := x.Find(va, 0); e != (api.Entry{}) || i != -1 {
				t.Errorf("New(%d): Find(%#x, 0): %+v, %d", c.n, va, e, i)
			}
		}
	}
}

// TestNewOnesAreTwo changes one of two TLBs.
func TestNewOnesAreTwo(t *testing.T) {
	x, y := New(4), New(4)
	must(t, x.Put(0, of(1, 0, 0)))
	check(t, x, plain{of(1, 0, 0), {}, {}, {}}, "changed")
	check(t, y, make(plain, 4), "not changed")
}

func TestPartsExamples(t *testing.T) {
	for _, c := range []struct {
		a, b api.Entry
		want bool
	}{
		{of(1, 0, 0), of(1, 0, 0), false}, {of(1, 0, 0), of(2, 0, 0), true}, {of(1, 0, 0), of(0, 0, 0), true}, {of(0, 0, 0), of(0, 0, 0), false}, {of(8191, 0, 0), of(8191, 0, 0), false}, {of(8191, 0, 0), of(8190, 0, 0), true},
		{global(of(0, 0, 0)), of(1, 0, 0), false}, {global(of(0, 0, 0)), of(0, 0, 0), false}, {global(of(0, 0, 0)), global(of(0, 0, 0)), false}, {global(of(0, 0, 0)), of(1, 0, 8192), true}, {global(of(0, 0, 0)), global(of(0, 0, 8192)), true},
		{of(1, 0, 0), of(1, 0, 8192), true}, {of(1, 0, 8192), of(1, 1, 0), false}, {of(1, 0, 65536-8192), of(1, 1, 0), false}, {of(1, 0, 65536), of(1, 1, 0), true}, {of(2, 0, 8192), of(1, 1, 0), true}, {of(2, 0, 8192), global(of(1, 1, 0)), false},
		{of(1, 2, 524288), of(1, 3, 0), false}, {of(1, 2, 4194304), of(1, 3, 0), true}, {of(1, 3, 4194304), of(1, 3, 0), true}, {of(1, 3, 0), of(1, 0, 4194304-8192), false},
		{of(1, 3, holeFrom-4194304), of(1, 3, holeTo), true}, {of(1, 0, holeFrom-8192), of(1, 3, holeFrom-4194304), false}, {of(1, 0, top-8191), of(1, 3, top-4194303), false}, {of(1, 0, top-8191), of(1, 0, 0), true}, {of(1, 3, top-4194303), of(1, 3, 0), true}, {of(1, 0, holeTo+8192), of(1, 1, holeTo), false},
	} {
		if is := Parts(c.a, c.b); is != c.want {
			t.Errorf("Parts(%+v, %+v) is %v", c.a, c.b, is)
		}
		if is := Parts(c.b, c.a); is != c.want {
			t.Errorf("Parts(%+v, %+v) is %v", c.b, c.a, is)
		}
	}
}

// around are entries of each size at a base and up to two pages of each size off it, in three contexts and Global.
func around(base uint64) []api.Entry {
	var l []api.Entry
	for size, n := range bytes {
		for _, m := range bytes {
			for _, va := range []uint64{base - 2*m, base - m, base, base + m, base + 2*m} {
				if va%n != 0 || va >= holeFrom && va < holeTo {
					continue
				}
				l = append(l, of(0, size, va), of(1, size, va), of(8191, size, va), global(of(0, size, va)))
			}
		}
	}
	return l
}

func TestPartsEachTwo(t *testing.T) {
	for _, base := range []uint64{0, 4194304, 524288 * 3, 65536 * 5, 1 << 42, holeFrom, holeTo, holeTo + 65536} {
		l := around(base)
		for _, a := range l {
			for _, b := range l {
				if is := Parts(a, b); is != part(a, b) {
					t.Fatalf("Parts(%+v, %+v) is %v", a, b, is)
				}
			}
		}
	}
}

// TestPartsByAddresses asks whether some address in some context is both's: it would be at one of their ends.
func TestPartsByAddresses(t *testing.T) {
	l := around(65536 * 8)
	for _, a := range l {
		for _, b := range l {
			both := false
			for _, e := range []api.Entry{a, b} {
				first, last := ends(e)
				for _, va := range []uint64{first, last} {
					for _, ctx := range []int{a.Ctx, b.Ctx, 7} {
						both = both || hits(a, va, ctx) && hits(b, va, ctx)
					}
				}
			}
			if is := Parts(a, b); is == both {
				t.Fatalf("Parts(%+v, %+v) is %v", a, b, is)
			}
		}
	}
}

// TestPartsByNoOtherThing: neither frames nor attributes but Global tell whether two part.
func TestPartsByNoOtherThing(t *testing.T) {
	for i := range 32 {
		attr := api.Attr{Write: i&1 > 0, Priv: i&2 > 0, Exec: i&4 > 0, Lock: i&8 > 0, Quiet: i&16 > 0}
		a, b, c := of(1, 0, 8192), of(2, 0, 8192), of(1, 0, 16384)
		a.Attr, a.Pa = attr, uint64(i)*8192
		if Parts(a, of(1, 0, 8192)) || Parts(of(1, 0, 8192), a) || Parts(a, a) || !Parts(a, b) || !Parts(b, a) || !Parts(a, c) || !Parts(c, a) {
			t.Errorf("%+v", a)
		}
		a.Attr.Global, a.Ctx = true, 0
		if Parts(a, of(1, 0, 8192)) || Parts(a, b) || Parts(b, a) || !Parts(a, c) || !Parts(c, a) {
			t.Errorf("%+v", a)
		}
	}
}

func TestAt(t *testing.T) {
	for _, n := range []int{1, 2, 3, most - 1, most} {
		for _, i := range []int{0, n / 2, n - 1} {
			p := make(plain, n)
			p[i] = locked(of(3, 1, 65536))
			x := laid(t, p)
			if e, is := x.At(i); e != p[i] || !is {
				t.Error("At", i, "of", n, e, is)
			}
			for _, at := range append([]int{n, n + 1, i + n, i - n}, edgeInts...) {
				if e, is := x.At(at); e != (api.Entry{}) || is {
					t.Error("At", at, "of", n, e, is)
				}
			}
			check(t, x, p, "At")
		}
	}
}

func TestFindAtBothEnds(t *testing.T) {
	for _, n := range []int{1, 2, most} {
		for _, i := range []int{0, n / 2, n - 1} {
			for size, b := range bytes {
				for _, va := range []uint64{0, b, 3 * b, 1 << 42, holeFrom - b, holeTo, holeTo + b, top - b + 1} {
					p := make(plain, n)
					p[i] = of(5, size, va)
					x := laid(t, p)
					for _, at := range []uint64{va, va + 1, va + b/2, va + b - 1} {
						if e, is := x.Find(at, 5); e != p[i] || is != i {
							t.Fatalf("size %d at %#x: Find(%#x): %+v, %d", size, va, at, e, is)
						}
					}
					for _, at := range []uint64{va - 1, va + b, va - b, va + 2*b, va ^ 1<<63, va ^ 1<<44, va ^ 1<<43, va ^ b} {
						if e, is := x.Find(at, 5); e != (api.Entry{}) || is != -1 {
							t.Fatalf("size %d at %#x: Find(%#x): %+v, %d", size, va, at, e, is)
						}
					}
				}
			}
		}
	}
}

func TestFindByContext(t *testing.T) {
	x := laid(t, plain{of(5, 0, 8192), global(of(0, 0, 16384)), of(0, 0, 0), of(6, 0, 8192), of(8191, 0, 8192)})
	for _, c := range []struct {
		va        uint64
		ctx, want int
	}{
		{8192, 5, 0}, {8192, 6, 3}, {8192, 8191, 4}, {8192, 0, -1}, {8192, 7, -1}, {8192, 5 + 8192, -1}, {8192, -8187, -1}, {8192, 1<<32 + 5, -1},
		{0, 0, 2}, {0, 5, -1}, {0, 8192, -1}, {0, -8192, -1}, {0, 1 << 32, -1}, {0, math.MinInt, -1},
		{16384, 0, 1}, {16384, 5, 1}, {16384, 8191, 1}, {16384, 8192, 1}, {16384, -1, 1}, {16384, math.MaxInt, 1}, {16384, math.MinInt, 1}, {24575, 3, 1}, {24576, 3, -1},
	} {
		if _, i := x.Find(c.va, c.ctx); i != c.want {
			t.Errorf("Find(%#x, %d) at %d", c.va, c.ctx, i)
		}
	}
	for _, ctx := range edgeInts {
		if e, i := x.Find(0, ctx); e != (api.Entry{}) || i != -1 {
			t.Error("Find in", ctx, e, i)
		}
	}
}

// inHole are addresses in the hole; the least 43 bits of some are those of addresses beside it.
var inHole = []uint64{holeFrom, holeFrom + 8192, holeFrom + 4194303, 1 << 44, 1<<44 + 8192, 1 << 62, 1 << 63, 1<<63 + 8192, holeTo - 1, holeTo - 8192, 0x7ffff80000000000, 0xfffff00000000000}

func TestFindInTheHole(t *testing.T) {
	x := laid(t, plain{global(of(0, 3, holeFrom-4194304)), global(of(0, 3, holeTo)), global(of(0, 3, 0)), of(1, 0, 4194304), {}})
	for _, va := range inHole {
		for _, ctx := range []int{0, 1, 5} {
			if e, i := x.Find(va, ctx); e != (api.Entry{}) || i != -1 {
				t.Errorf("Find(%#x, %d): %+v, %d", va, ctx, e, i)
			}
		}
	}
}

// TestListIsNew changes what was told, which the TLB is not changed by.
func TestListIsNew(t *testing.T) {
	p := plain{of(1, 0, 0), {}, locked(of(2, 0, 0)), {}, of(3, 0, 0)}
	x := laid(t, p)
	l := x.List()
	if !slices.Equal(l, []api.Entry{of(1, 0, 0), locked(of(2, 0, 0)), of(3, 0, 0)}) {
		t.Fatal(l)
	}
	clear(l)
	l = append(l[:0], of(9, 1, 0), of(9, 2, 0), of(9, 3, 0))
	check(t, x, p, "behind a list changed")
	if m := x.List(); len(m) != 3 || len(l) != 3 || m[0] == l[0] {
		t.Error(m, l)
	}
}

func TestListGoesByPlaces(t *testing.T) {
	x, p := New(most), make(plain, most)
	for step := range most {
		i := (step*37 + 11) % most
		p[i] = of(i, 0, uint64(step%3)*8192)
		p[i].Attr.Lock = step%2 == 0
		must(t, x.Put(i, p[i]))
		check(t, x, p, "step", step)
	}
}

// P6.2

func TestPutEachPlace(t *testing.T) {
	for _, n := range []int{1, 2, 3, most} {
		x, p := New(n), make(plain, n)
		for i := n - 1; i >= 0; i-- {
			p[i] = of(1, 0, uint64(i)*8192)
			must(t, x.Put(i, p[i]))
			check(t, x, p, "Put", i, "of", n)
		}
		for i := range n {
			p[i] = locked(of(2, 0, uint64(i)*8192))
			must(t, x.Put(i, p[i]))
			check(t, x, p, "Put again", i, "of", n)
		}
	}
}

// TestPutOntoWhatStandsThere puts onto an entry that is the same, that has Lock, that is Global, from which the new one does not part, and from which it does.
func TestPutOntoWhatStandsThere(t *testing.T) {
	old := []api.Entry{of(1, 0, 8192), locked(of(1, 0, 8192)), global(of(0, 0, 8192)), locked(global(of(0, 1, 0))), of(1, 3, 0), of(2, 0, 8192), of(1, 0, 65536)}
	for _, was := range old {
		for _, e := range append([]api.Entry{of(7, 2, 524288)}, old...) {
			for i := range 3 {
				p := plain{of(3, 0, 1<<30), locked(of(4, 0, 1<<30)), of(5, 0, 1<<30)}
				p[i] = was
				x := laid(t, p)
				must(t, x.Put(i, e))
				p[i] = e
				check(t, x, p, "Put", e, "onto", was, "at", i)
			}
		}
	}
}

// TestPutInTheWay puts where an entry at another place does not part: at a place that is empty, at one that is not, ahead of it and behind.
func TestPutInTheWay(t *testing.T) {
	e := of(1, 1, 65536)
	for _, other := range []api.Entry{of(1, 1, 65536), of(1, 0, 65536), of(1, 0, 2*65536-8192), of(1, 2, 0), of(1, 3, 0), global(of(0, 0, 65536+8192)), global(of(0, 3, 0)), locked(of(1, 1, 65536))} {
		for at := range 4 {
			for i := range 4 {
				if i == at {
					continue
				}
				for _, there := range []api.Entry{{}, of(2, 0, 0), of(2, 1, 65536), locked(of(2, 3, 4194304))} {
					p := make(plain, 4)
					p[at], p[i] = other, there
					if there.Valid && !part(there, other) {
						continue
					}
					x := laid(t, p)
					if got := x.Put(i, e); got != api.ErrExist {
						t.Fatal("Put at", i, "where", other, "stands at", at, "told", got)
					}
					check(t, x, p, "not put at", i)
				}
			}
		}
	}
}

// TestPutTwoInTheWay: that the entry at the place itself does not part, does not hide that another one does not either.
func TestPutTwoInTheWay(t *testing.T) {
	p := plain{of(1, 0, 0), of(1, 0, 8192), of(1, 0, 16384)}
	x := laid(t, p)
	for i := range p {
		if got := x.Put(i, of(1, 1, 0)); got != api.ErrExist {
			t.Error("Put", i, "told", got)
		}
		check(t, x, p, "Put", i)
	}
	for i := range 2 {
		x.Clear(i)
		p[i] = api.Entry{}
	}
	must(t, x.Put(2, of(1, 1, 0)))
	p[2] = of(1, 1, 0)
	check(t, x, p, "the last one in the way")
}

func TestPutBesideOthers(t *testing.T) {
	p := plain{of(1, 0, 8192), global(of(0, 0, 0)), {}, {}, {}, {}, {}, {}}
	x := laid(t, p)
	for i, e := range []api.Entry{of(2, 0, 8192), of(1, 0, 16384), of(0, 0, 8192), of(1, 3, 4194304), of(2, 1, 65536), global(of(0, 3, top-4194303))} {
		must(t, x.Put(i+2, e))
		p[i+2] = e
		check(t, x, p, "Put", e)
	}
}

func TestPutErrors(t *testing.T) {
	for _, n := range []int{1, 3, most} {
		p := full(n, func(i int) bool { return i%2 == 0 })
		x := laid(t, p)
		for _, e := range wrongEntries() {
			for _, i := range append([]int{0, n - 1, n, n + 1}, edgeInts...) {
				if got := x.Put(i, e); got != api.ErrArg {
					t.Fatal("Put", i, e, "told", got)
				}
			}
		}
		check(t, x, p, "behind wrong entries")
		// That there is no such place is told ahead of what stands in the way.
		for _, e := range []api.Entry{of(9, 0, 0), p[0], p[n-1], global(of(0, 3, 0x40000000))} {
			for _, i := range append([]int{n, n + 1}, edgeInts...) {
				if i >= 0 && i < n {
					continue
				}
				if got := x.Put(i, e); got != api.ErrRange {
					t.Fatal("Put", i, e, "told", got)
				}
			}
		}
		check(t, x, p, "behind wrong places")
	}
}

// P6.3

// insert inserts into a TLB and into the plain one, and holds both against each other.
func insert(t *testing.T, x *Tlb, p plain, e api.Entry, pick int) (int, api.Errno) {
	t.Helper()
	want, wantErrno := p.insert(e, pick)
	i, errno := x.Insert(e, pick)
	if i != want || errno != wantErrno {
		t.Fatal("Insert", e, pick, "told", i, errno, "want", want, wantErrno)
	}
	check(t, x, p, "Insert", e, pick)
	return i, errno
}

// inserted asserts of an Insert what is written out.
func inserted(t *testing.T, p plain, e api.Entry, pick, want int, wantErrno api.Errno) *Tlb {
	t.Helper()
	x := laid(t, p)
	if i, errno := x.Insert(e, pick); i != want || errno != wantErrno {
		t.Fatal("Insert", e, pick, "into", p, "told", i, errno, "want", want, wantErrno)
	}
	return x
}

func TestInsertExamples(t *testing.T) {
	a, b, c := of(1, 0, 0), of(1, 0, 8192), of(1, 0, 16384)
	for _, pick := range []int{1, 3, -2, math.MaxInt, math.MinInt} {
		x := inserted(t, plain{a, b}, c, pick, 1, api.OK)
		check(t, x, plain{a, c}, "pick", pick)
	}
	for _, pick := range []int{0, 2, -1, -3, math.MaxInt - 1, math.MinInt + 1} {
		x := inserted(t, plain{a, b}, c, pick, 0, api.OK)
		check(t, x, plain{c, b}, "pick", pick)
	}
}

// TestInsertWhereNothingIsToGo takes the first place that is empty, whatever the pick.
func TestInsertWhereNothingIsToGo(t *testing.T) {
	for _, n := range []int{1, 2, 5, most} {
		for _, pick := range fewPicks {
			x, p := New(n), make(plain, n)
			for i := range n {
				if at, errno := insert(t, x, p, of(1, 0, uint64(n-i)*8192), pick); at != i || errno != api.OK {
					t.Fatal("the one", i, "of", n, "told", at, errno)
				}
			}
		}
	}
}

func TestInsertIntoAGap(t *testing.T) {
	for bits := range 1 << 6 {
		p := full(6, func(i int) bool { return i%2 == 1 })
		first := -1
		for i := 5; i >= 0; i-- {
			if bits>>i&1 == 1 {
				p[i], first = api.Entry{}, i
			}
		}
		if first < 0 {
			continue
		}
		for _, pick := range picks {
			x := inserted(t, p, of(2, 1, 65536), pick, first, api.OK)
			q := slices.Clone(p)
			q[first] = of(2, 1, 65536)
			check(t, x, q, "gaps", bits, "pick", pick)
		}
	}
}

// TestInsertWhereSomeAreToGo: what does not part goes, with or without places that are empty, and the new one stands at the first place that is empty then.
func TestInsertWhereSomeAreToGo(t *testing.T) {
	out, in := of(2, 0, 8192), of(1, 0, 8192)
	for _, c := range []struct {
		p, q plain
		want int
	}{
		{plain{in, out}, plain{of(1, 1, 0), out}, 0},
		{plain{out, in}, plain{out, of(1, 1, 0)}, 1},
		{plain{{}, out, in}, plain{of(1, 1, 0), out, {}}, 0},
		{plain{out, in, {}}, plain{out, of(1, 1, 0), {}}, 1},
		{plain{locked(out), in, {}}, plain{locked(out), of(1, 1, 0), {}}, 1},
		{plain{of(1, 0, 0), out, of(1, 0, 16384), locked(of(3, 0, 0)), in}, plain{of(1, 1, 0), out, {}, locked(of(3, 0, 0)), {}}, 0},
		{plain{locked(out), of(1, 0, 65536-8192), of(1, 0, 65536), of(1, 0, 0)}, plain{locked(out), of(1, 1, 0), of(1, 0, 65536), {}}, 1},
		{plain{of(1, 3, 0), out}, plain{of(1, 1, 0), out}, 0},
		{plain{of(2, 0, 524288), global(of(0, 2, 0))}, plain{of(2, 0, 524288), of(1, 1, 0)}, 1},
		{plain{of(1, 1, 0), of(3, 1, 0)}, plain{of(1, 1, 0), of(3, 1, 0)}, 0},
		{plain{{}, of(1, 1, 0)}, plain{of(1, 1, 0), {}}, 0},
	} {
		for _, pick := range picks {
			x := inserted(t, c.p, of(1, 1, 0), pick, c.want, api.OK)
			check(t, x, c.q, "pick", pick)
		}
	}
}

// TestInsertGlobal: of all contexts what lies in its page goes.
func TestInsertGlobal(t *testing.T) {
	p := plain{of(4, 0, 4194304), of(1, 0, 0), locked(of(1, 3, 4194304)), of(2, 0, 8192), of(8191, 1, 65536), global(of(0, 2, 524288)), of(0, 1, 0)}
	e := global(of(0, 3, 0))
	x := inserted(t, p, e, 5, 1, api.OK)
	check(t, x, plain{p[0], e, p[2], {}, {}, {}, {}}, "a Global one")
}

// TestInsertAllAtOnce makes all places of the greatest TLB go for one entry.
func TestInsertAllAtOnce(t *testing.T) {
	p := full(most, none)
	for _, e := range []api.Entry{of(1, 2, 0x40000000), global(of(0, 3, 0x40000000))} {
		q := make(plain, most)
		q[0] = e
		x := inserted(t, p, e, 7, 0, api.OK)
		check(t, x, q, "all at once")
	}
}

// TestInsertWhereAllAreFull goes through all picks, with Lock at each set of places.
func TestInsertWhereAllAreFull(t *testing.T) {
	for n := 1; n <= 6; n++ {
		for bits := range 1 << n {
			for _, pick := range append([]int{n - 1, n, n + 1, -n, -n - 1, 2*n - 1, 2 * n}, picks...) {
				p := full(n, func(i int) bool { return bits>>i&1 == 1 })
				x := laid(t, p)
				i, errno := insert(t, x, p, of(2, 0, 0), pick)
				if bits == 1<<n-1 {
					if i != 0 || errno != api.ErrLocked {
						t.Fatal("all locked:", i, errno)
					}
				} else if errno != api.OK || bits>>i&1 == 1 {
					t.Fatal("locked", bits, "told", i, errno)
				}
			}
		}
	}
}

// TestInsertPicks writes out which place is picked: of 64 places all but four have Lock.
func TestInsertPicks(t *testing.T) {
	open := []int{0, 5, 6, 63}
	p := full(most, func(i int) bool { return !slices.Contains(open, i) })
	for _, c := range []struct{ pick, want int }{
		{0, 0}, {1, 5}, {2, 6}, {3, 63}, {4, 0}, {5, 5}, {6, 6}, {7, 63}, {63, 63}, {64, 0}, {1<<62 + 1, 5}, {math.MaxInt, 63}, {math.MaxInt - 1, 6}, {math.MaxInt - 3, 0},
		{-1, 0}, {-2, 5}, {-3, 6}, {-4, 63}, {-5, 0}, {-6, 5}, {-8, 63}, {-9, 0}, {-64, 63}, {-65, 0}, {math.MinInt, 63}, {math.MinInt + 1, 6}, {math.MinInt + 2, 5}, {math.MinInt + 3, 0},
	} {
		x := inserted(t, p, of(2, 0, 0), c.pick, c.want, api.OK)
		q := slices.Clone(p)
		q[c.want] = of(2, 0, 0)
		check(t, x, q, "pick", c.pick)
	}
}

// TestInsertBetweenLocked: where all but one place has Lock, it is picked each time, and none behind it has Lock.
func TestInsertBetweenLocked(t *testing.T) {
	for i := range 5 {
		p := full(5, func(j int) bool { return j != i })
		for _, pick := range picks {
			x := inserted(t, p, of(2, 0, 0), pick, i, api.OK)
			// What was put there has no Lock and is picked again; with Lock none is left.
			if at, errno := x.Insert(locked(of(3, 0, 0)), pick); at != i || errno != api.OK {
				t.Fatal(at, errno)
			}
			if at, errno := x.Insert(of(4, 0, 0), pick); at != 0 || errno != api.ErrLocked {
				t.Fatal(at, errno)
			}
			p := slices.Clone(p)
			p[i] = locked(of(3, 0, 0))
			check(t, x, p, "pick", pick)
		}
	}
}

// TestInsertLockedInTheWay: an entry with Lock stands in the way, beside others without it, empty places or none.
func TestInsertLockedInTheWay(t *testing.T) {
	e := of(1, 1, 0)
	for _, in := range []api.Entry{of(1, 0, 0), of(1, 0, 65536-8192), of(1, 1, 0), of(1, 3, 0), global(of(0, 0, 8192)), global(of(0, 2, 0))} {
		for at := range 4 {
			for _, rest := range []plain{make(plain, 4), full(4, none), full(4, every), {{}, of(2, 0, 0), {}, of(3, 3, 0)}} {
				p := slices.Clone(rest)
				p[at] = locked(in)
				if p.inWay(p[at], at) {
					continue
				}
				for _, pick := range picks {
					x := inserted(t, p, e, pick, 0, api.ErrLocked)
					check(t, x, p, "locked in the way at", at)
				}
			}
		}
	}
}

// TestInsertOneLockedOfSeveral: of several in the way only one has Lock, the first, the middle or the last one; none goes.
func TestInsertOneLockedOfSeveral(t *testing.T) {
	for at := range 5 {
		p := make(plain, 6)
		for i := range 5 {
			p[i] = of(1, 0, uint64(i)*8192)
		}
		p[at] = locked(p[at])
		for _, e := range []api.Entry{of(1, 1, 0), of(1, 3, 0), global(of(0, 1, 0)), locked(of(1, 1, 0))} {
			x := inserted(t, p, e, 0, 0, api.ErrLocked)
			check(t, x, p, "locked", at)
		}
		x := inserted(t, p, of(2, 1, 0), 0, 5, api.OK)
		p[5] = of(2, 1, 0)
		check(t, x, p, "in another context")
	}
}

// TestInsertWhereOthersGo: all places are full, and all but those in the way have Lock.
func TestInsertWhereOthersGo(t *testing.T) {
	for i := range 6 {
		for j := range 6 {
			p := full(6, every)
			p[i] = of(2, 0, 0)
			if i != j {
				p[j] = of(2, 0, 8192)
			}
			for _, pick := range picks {
				x := inserted(t, p, of(2, 1, 0), pick, min(i, j), api.OK)
				q := slices.Clone(p)
				q[i], q[j] = api.Entry{}, api.Entry{}
				q[min(i, j)] = of(2, 1, 0)
				check(t, x, q, "go", i, j)
				if x.Locked() != len(p)-len(slices.Compact([]int{i, j})) {
					t.Fatal("Locked", x.Locked())
				}
			}
		}
	}
}

func TestInsertWhereAllAreLocked(t *testing.T) {
	for _, n := range []int{1, 2, 3, most} {
		p := full(n, every)
		for _, e := range []api.Entry{of(2, 0, 0), locked(of(2, 0, 0)), global(of(0, 0, 0)), p[0], p[n-1], global(of(0, 3, 0x40000000))} {
			for _, pick := range fewPicks {
				x := inserted(t, p, e, pick, 0, api.ErrLocked)
				check(t, x, p, "all locked")
			}
		}
	}
}

// TestInsertErrors: that an entry may not be is told ahead of all, of TLBs that are empty, full and locked.
func TestInsertErrors(t *testing.T) {
	for _, p := range []plain{make(plain, 1), make(plain, 4), full(3, none), full(3, every), full(most, every), {of(1, 3, 0), locked(of(1, 3, 4194304)), {}}} {
		x := laid(t, p)
		for _, e := range wrongEntries() {
			for _, pick := range fewPicks {
				if i, errno := x.Insert(e, pick); i != 0 || errno != api.ErrArg {
					t.Fatal("Insert", e, pick, "told", i, errno)
				}
			}
		}
		check(t, x, p, "behind wrong entries")
	}
}

// P6.4

// mixed are entries with Lock and with Global, and both, of several contexts, between places that are empty.
func mixed() plain {
	return plain{
		{}, of(1, 0, 8192), locked(of(2, 0, 8192)), global(of(0, 1, 65536)), {},
		locked(global(of(0, 2, 524288))), of(0, 0, 8192), locked(of(0, 3, 4194304)), of(1, 3, 4194304), locked(of(8191, 0, holeFrom-8192)),
		{}, of(1, 0, top-8191), global(of(0, 0, holeTo)), of(2, 0, 16384), {},
	}
}

// dropped asserts how many went, and that what is left is so at all its places.
func dropped(t *testing.T, x *Tlb, got int, p plain, goes func(e api.Entry) bool, said ...any) {
	t.Helper()
	if want := p.drop(goes); got != want {
		t.Fatal(said, "told", got, "want", want)
	}
	check(t, x, p, said...)
}

func TestDemapPageExamples(t *testing.T) {
	for _, c := range []struct {
		va   uint64
		ctx  int
		at   int // the place that is empty then
		want int
	}{
		{8192, 1, 1, 1}, {16383, 1, 1, 1}, {16384, 1, 0, 0}, {8191, 1, 0, 0}, {8192, 3, 0, 0}, {8192, 2, 2, 1}, {16383, 2, 2, 1}, {8192, 0, 6, 1},
		{65536, 0, 3, 1}, {65536, 1, 3, 1}, {131071, 77, 3, 1}, {65536, -1, 3, 1}, {65536, math.MaxInt, 3, 1}, {65536, math.MinInt, 3, 1}, {131072, 0, 0, 0}, {65535, 0, 0, 0},
		{524288, 9, 5, 1}, {1048575, 9, 5, 1}, {4194304, 0, 7, 1}, {8388607, 0, 7, 1}, {4194304, 1, 8, 1}, {8388608, 1, 0, 0},
		{holeFrom - 1, 8191, 9, 1}, {holeFrom - 8192, 8191, 9, 1}, {holeFrom - 8193, 8191, 0, 0}, {top, 1, 11, 1}, {top, 2, 0, 0}, {holeTo, 5, 12, 1}, {holeTo + 8191, 5, 12, 1}, {0, 1, 0, 0},
		{8192, 8193, 0, 0}, {8192, -8191, 0, 0}, {8192, math.MaxInt, 0, 0}, {8192, math.MinInt, 0, 0},
	} {
		p := mixed()
		x := laid(t, p)
		if n := x.DemapPage(c.va, c.ctx); n != c.want {
			t.Errorf("DemapPage(%#x, %d): %d", c.va, c.ctx, n)
		}
		p[c.at] = api.Entry{}
		check(t, x, p, "DemapPage", c.va, c.ctx)
		if n := x.DemapPage(c.va, c.ctx); n != 0 {
			t.Errorf("DemapPage(%#x, %d) again: %d", c.va, c.ctx, n)
		}
		check(t, x, p, "DemapPage again", c.va, c.ctx)
	}
}

func TestDemapPageInTheHole(t *testing.T) {
	p := mixed()
	x := laid(t, p)
	for _, va := range inHole {
		for _, ctx := range append([]int{0, 1, 2}, edgeInts...) {
			if n := x.DemapPage(va, ctx); n != 0 {
				t.Errorf("DemapPage(%#x, %d): %d", va, ctx, n)
			}
		}
	}
	check(t, x, p, "behind DemapPage in the hole")
}

func TestDemapContext(t *testing.T) {
	for _, c := range []struct{ ctx, want int }{{0, 2}, {1, 3}, {2, 2}, {3, 0}, {8190, 0}, {8191, 1}, {8192, 0}, {8193, 0}, {-1, 0}, {-8191, 0}, {1 << 32, 0}, {1<<32 + 1, 0}, {math.MaxInt, 0}, {math.MinInt, 0}} {
		p := mixed()
		x := laid(t, p)
		n := x.DemapContext(c.ctx)
		if n != c.want {
			t.Error("DemapContext", c.ctx, "told", n)
		}
		dropped(t, x, n, p, func(e api.Entry) bool { return !e.Attr.Global && e.Ctx == c.ctx }, "DemapContext", c.ctx)
		if n := x.DemapContext(c.ctx); n != 0 {
			t.Error("DemapContext", c.ctx, "again told", n)
		}
	}
}

func TestDemapAll(t *testing.T) {
	for _, c := range []struct {
		p    plain
		want int
	}{{mixed(), 7}, {make(plain, 1), 0}, {make(plain, most), 0}, {full(most, none), most}, {full(most, every), 0}, {full(1, none), 1}, {full(5, func(i int) bool { return i == 4 }), 4}, {full(5, func(i int) bool { return i != 0 }), 1}, {plain{global(of(0, 0, 0)), locked(global(of(0, 0, 8192)))}, 1}} {
		x := laid(t, c.p)
		n := x.DemapAll()
		if n != c.want {
			t.Error("DemapAll told", n, "want", c.want)
		}
		dropped(t, x, n, c.p, func(e api.Entry) bool { return !e.Attr.Lock }, "DemapAll")
		if n := x.DemapAll(); n != 0 || len(x.List()) != x.Locked() {
			t.Error("DemapAll again told", n)
		}
	}
}

// TestDemapOfAll takes all entries away by each of the three.
func TestDemapOfAll(t *testing.T) {
	p := full(most, every)
	x := laid(t, p)
	if n := x.DemapContext(1); n != most || len(x.List()) != 0 || x.Locked() != 0 {
		t.Error(n, x.List())
	}
	x = laid(t, p)
	for i, e := range p {
		if n := x.DemapPage(e.Va+8191, 1); n != 1 || x.Locked() != most-1-i {
			t.Fatal(i, n, x.Locked())
		}
	}
	check(t, x, make(plain, most), "all gone")
}

func TestClear(t *testing.T) {
	for i, was := range mixed() {
		p := mixed()
		x := laid(t, p)
		if is := x.Clear(i); is != was.Valid {
			t.Error("Clear", i, is)
		}
		p[i] = api.Entry{}
		check(t, x, p, "Clear", i)
		if x.Clear(i) {
			t.Error("Clear", i, "again")
		}
		check(t, x, p, "Clear again", i)
	}
}

func TestClearOfNoPlace(t *testing.T) {
	for _, n := range []int{1, 3, most} {
		p := full(n, func(i int) bool { return i == 0 })
		x := laid(t, p)
		for _, i := range append([]int{n, n + 1, -n}, edgeInts...) {
			if (i < 0 || i >= n) && x.Clear(i) {
				t.Error("Clear", i, "of", n)
			}
		}
		check(t, x, p, "behind Clear of no place")
	}
}

// TestGoneIsAsNeverThere: what went stands in nobody's way, and its place is the first that is taken.
func TestGoneIsAsNeverThere(t *testing.T) {
	for i := range 5 {
		p := full(5, every)
		gone := p[i]
		for kind := range 3 {
			x := laid(t, p)
			switch kind {
			case 0:
				x.Clear(i)
			case 1:
				x.DemapPage(gone.Va, gone.Ctx)
			case 2:
				x.DemapContext(gone.Ctx)
			}
			want := i
			if kind == 2 {
				want = 0
			}
			if at, errno := x.Insert(gone, 3); at != want || errno != api.OK {
				t.Error("kind", kind, "told", at, errno)
			}
		}
	}
}

// P6.5

// some are entries out of few addresses, sizes and contexts, so that many of them do not part.
func some(r *rand.Rand) api.Entry {
	size := r.Intn(4)
	n := bytes[size]
	bases := []uint64{0, 8192, 65536, 65536 + 8192, 524288, 4194304, holeFrom - 1, holeTo, holeTo + 65536, top}
	e := of([]int{0, 1, 2, 8191}[r.Intn(4)], size, bases[r.Intn(len(bases))]/n*n)
	e.Attr = api.Attr{Write: r.Intn(2) == 0, Priv: r.Intn(2) == 0, Exec: r.Intn(2) == 0, Lock: r.Intn(5) == 0, Quiet: r.Intn(2) == 0}
	if r.Intn(6) == 0 {
		e = global(e)
	}
	return e
}

// oneEach asserts that no address in a context is two entries'; if one is, it is so at the first address of one of both.
func oneEach(t *testing.T, x *Tlb, said ...any) {
	t.Helper()
	l := x.List()
	for _, e := range l {
		for _, ctx := range []int{0, 1, 2, 7, 8191} {
			n := 0
			for _, other := range l {
				if hits(other, e.Va, ctx) {
					n++
				}
			}
			if n > 1 {
				t.Fatalf("%v: %#x in %d is that of %d entries", said, e.Va, ctx, n)
			}
		}
	}
}

// TestAnyCalls makes right and wrong calls one behind the other, and holds each answer, and all that is told behind it, against the plain TLB.
func TestAnyCalls(t *testing.T) {
	r := rand.New(rand.NewSource(6))
	wrong := wrongEntries()
	for round := range 300 {
		n := []int{1, 2, 3, 4, 8, 12, most}[round%7]
		x, p := New(n), make(plain, n)
		for step := range 120 {
			e, i, va, ctx := some(r), r.Intn(n+2)-1, some(r).Va+uint64(r.Intn(8192)), []int{0, 1, 2, 8191, 7, -1}[r.Intn(6)]
			said := []any{"round", round, "step", step, e, i, va, ctx}
			switch r.Intn(12) {
			case 0, 1, 2, 3:
				insert(t, x, p, e, picks[r.Intn(len(picks))])
			case 4, 5, 6:
				if got, want := x.Put(i, e), p.put(i, e); got != want {
					t.Fatal(said, "Put told", got, "want", want)
				}
			case 7, 8:
				dropped(t, x, x.DemapPage(va, ctx), p, func(e api.Entry) bool { return hits(e, va, ctx) }, said...)
			case 9:
				if r.Intn(3) == 0 {
					dropped(t, x, x.DemapContext(ctx), p, func(e api.Entry) bool { return !e.Attr.Global && e.Ctx == ctx }, said...)
				} else if r.Intn(4) == 0 {
					dropped(t, x, x.DemapAll(), p, func(e api.Entry) bool { return !e.Attr.Lock }, said...)
				}
			case 10:
				is := i >= 0 && i < n && p[i].Valid
				if x.Clear(i) != is {
					t.Fatal(said, "Clear is", !is)
				}
				if is {
					p[i] = api.Entry{}
				}
			case 11:
				w := wrong[r.Intn(len(wrong))]
				if at, errno := x.Insert(w, i); at != 0 || errno != api.ErrArg || x.Put(i, w) != api.ErrArg {
					t.Fatal(said, "told of one that may not be", at, errno)
				}
			}
			check(t, x, p, said...)
			oneEach(t, x, said...)
		}
	}
}

// TestSameCallsSameAnswers: two TLBs that were told the same tell the same.
func TestSameCallsSameAnswers(t *testing.T) {
	r := rand.New(rand.NewSource(66))
	x, y := New(6), New(6)
	for step := range 2000 {
		e, pick := some(r), picks[r.Intn(len(picks))]
		i, errno := x.Insert(e, pick)
		j, other := y.Insert(e, pick)
		if i != j || errno != other || !slices.Equal(x.List(), y.List()) {
			t.Fatal("step", step, i, errno, j, other)
		}
		if step%10 == 9 && x.DemapPage(e.Va, e.Ctx) != y.DemapPage(e.Va, e.Ctx) {
			t.Fatal("step", step)
		}
		if step%25 == 24 {
			x.Clear(step % 6)
			y.Clear(step % 6)
		}
	}
}
