package regs

import (
	"math"
	"math/rand"
	"slices"
	"testing"

	"lookaside/api"
)

const all = ^uint64(0)

// spot is what a register is asked by.
type spot struct {
	asi   int
	place uint64
}

// spots are all eleven, in All's row.
var spots = []spot{
	{0x50, 0x00}, {0x50, 0x18}, {0x50, 0x28}, {0x50, 0x30},
	{0x58, 0x00}, {0x58, 0x08}, {0x58, 0x10}, {0x58, 0x18}, {0x58, 0x20}, {0x58, 0x28}, {0x58, 0x30},
}

// Where the registers stand among the spots.
const (
	iTarget = iota
	iStatus
	iTsb
	iAccess
	dTarget
	dPrimary
	dSecondary
	dStatus
	dAddress
	dTsb
	dAccess
)

// Where the units' registers stand, I's ahead of D's.
var (
	targets  = []int{iTarget, dTarget}
	statuses = []int{iStatus, dStatus}
	accesses = []int{iAccess, dAccess}
)

// edgeInts are numbers far out, and such whose least bits are those of one that may be.
var edgeInts = []int{math.MinInt, math.MinInt + 1, -1 << 62, -1 << 32, -1<<32 + 5, -8192, -256, -128, -2, -1, 1 << 20, 1 << 32, 1<<32 + 1, 1<<32 + 5, 1 << 62, math.MaxInt - 1, math.MaxInt}

// vas are ordinary addresses, and the edges: of a page, of what the tag target has, of the hole, in it, and of all.
var vas = []uint64{0, 1, 99, 5, 0x1fff, 0x2000, 0x3fff, 0x402000, 0x402123, 0x403fff, 1<<22 - 1, 1 << 22, 1<<22 + 1, 1<<43 - 1, 1 << 43, 1 << 63, 1<<63 - 1, 0xfffff7ffffffffff, 0xfffff80000000000, 0xfffff80000402123, 0x0123456789abcdef, 0xfedcba9876543210, 0x5555555555555555, 0xaaaaaaaaaaaaaaaa, all - 1, all - 0x1fff, all}

// words are each single bit, none, all, all but one, and others.
func words() []uint64 {
	l := []uint64{0, all, 0x5555555555555555, 0xaaaaaaaaaaaaaaaa, 0x0123456789abcdef, 0xdeadbeef}
	for i := range 64 {
		l = append(l, power(i), all-power(i))
	}
	return l
}

// power is 2 to the i, by doubling.
func power(i int) uint64 {
	v := uint64(1)
	for range i {
		v *= 2
	}
	return v
}

// bit is the bit i of w, by halving.
func bit(w uint64, i int) uint64 {
	for range i {
		w /= 2
	}
	return w % 2
}

// stays tells of a register whether a bit of what is put stays, as the chapter's table has it.
func stays(at, i int) bool {
	switch at {
	case dPrimary, dSecondary:
		return i <= 12
	case iStatus, dStatus:
		return i <= 13 || i >= 16 && i <= 23
	case iTsb, dTsb:
		return i >= 13 || i == 12 || i <= 2
	case iAccess, dAccess:
		return true
	}
	return false
}

// kept is what stays of a word that is put.
func kept(at int, v uint64) uint64 {
	w := uint64(0)
	for i := range 64 {
		if stays(at, i) {
			w += bit(v, i) * power(i)
		}
	}
	return w
}

// tag is the tag target of a tag access, bit by bit.
func tag(w uint64) uint64 {
	v := uint64(0)
	for i := range 13 {
		v += bit(w, i) * power(48+i)
	}
	for i := 22; i < 64; i++ {
		v += bit(w, i) * power(i-22)
	}
	return v
}

// plain is the words of all eleven: what the tests hold the package against.
type plain [11]uint64

// put is a Write of a register that may be put, or a Miss's.
func (p *plain) put(at int, v uint64) {
	p[at] = kept(at, v)
	p[iTarget], p[dTarget] = tag(p[iAccess]), tag(p[dAccess])
}

func (p *plain) miss(unit int, va uint64, ctx int) {
	p.put(accesses[unit], va/8192*8192+uint64(ctx))
}

func (p *plain) fault(unit, kind, asi int, store, priv bool, va uint64) {
	w := uint64(1) + uint64(kind)*128 + uint64(asi)*65536
	if p[statuses[unit]]%2 == 1 {
		w += 2
	}
	if store {
		w += 4
	}
	if priv {
		w += 8
	}
	p[statuses[unit]] = w
	if unit == D {
		p[dAddress] = va
	}
}

// check asserts that registers are as they must be, by all calls that tell of them, twice: telling changes nothing.
func check(t *testing.T, r *Regs, p plain, said ...any) {
	t.Helper()
	for range 2 {
		if l := r.All(); !slices.Equal(l, p[:]) {
			t.Fatalf("%v: All %x, want %x", said, l, p)
		}
		for at, s := range spots {
			if w, errno := r.Read(s.asi, s.place); w != p[at] || errno != api.OK {
				t.Fatalf("%v: Read(%#x, %#x): %#x, %v, want %#x", said, s.asi, s.place, w, errno, p[at])
			}
		}
		if n := r.Primary(); n != int(p[dPrimary]) {
			t.Fatal(said, "Primary", n, "want", p[dPrimary])
		}
	}
}

// must asserts what a call was told.
func must(t *testing.T, got, want api.Errno, said ...any) {
	t.Helper()
	if got != want {
		t.Fatal(said, "told", got, "want", want)
	}
}

// write puts a word in both.
func write(t *testing.T, r *Regs, p *plain, at int, v uint64) {
	t.Helper()
	must(t, r.Write(spots[at].asi, spots[at].place, v), api.OK, "Write", at, v)
	p.put(at, v)
}

// miss and fault are done in both.
func miss(t *testing.T, r *Regs, p *plain, unit int, va uint64, ctx int) {
	t.Helper()
	must(t, r.Miss(unit, va, ctx), api.OK, "Miss", unit, va, ctx)
	p.miss(unit, va, ctx)
}

func fault(t *testing.T, r *Regs, p *plain, unit, kind, asi int, store, priv bool, va uint64) {
	t.Helper()
	must(t, r.Fault(unit, kind, asi, store, priv, va), api.OK, "Fault", unit, kind, asi, store, priv, va)
	p.fault(unit, kind, asi, store, priv, va)
}

// filled is registers of which none is 0 and no two are the same.
func filled(t *testing.T) (*Regs, plain) {
	t.Helper()
	r, p := New(), plain{}
	for at, v := range map[int]uint64{iStatus: 0xaa1233, iTsb: 0x1234567000003005, iAccess: 0xfffff80000402123, dPrimary: 0x1abc, dSecondary: 0x0def, dTsb: 0x7654321000002002, dAccess: 0x0000012345678123} {
		write(t, r, &p, at, v)
	}
	fault(t, r, &p, D, 0x41, 0x82, false, true, 0x0000076543219876)
	check(t, r, p, "filled")
	seen := slices.Sorted(slices.Values(p[:]))
	if seen[0] == 0 || len(slices.Compact(seen)) != len(p) {
		t.Fatalf("%x", p)
	}
	return r, p
}

// none are spots that no register has: of both spaces beside those that are, of each other space.
func none() []spot {
	var l []spot
	places := []uint64{1 << 31, 1 << 32, 1<<32 + 0x18, 1 << 63, 1<<63 + 0x28, all - 0x2f, all - 7, all - 1, all}
	for p := range uint64(0x200) {
		places = append(places, p)
	}
	asis := append([]int{0, 1, 0x08, 0x18, 0x30, 0x4f, 0x51, 0x52, 0x57, 0x59, 0x5a, 0x5f, 0x60, 0x80, 0xd0, 0xd8, 0x150, 0x158, 0x50 + 1<<32, 0x58 + 1<<32, -0x50, -0x58, -0xb0, -0xa8, math.MinInt + 0x50, math.MinInt + 0x58}, edgeInts...)
	for _, asi := range append(asis, 0x50, 0x58) {
		for _, p := range places {
			if s := (spot{asi, p}); !slices.Contains(spots, s) {
				l = append(l, s)
			}
		}
	}
	return l
}

// P7.1

func TestNew(t *testing.T) {
	r := New()
	check(t, r, plain{}, "new")
	if l := r.All(); len(l) != 11 {
		t.Error(l)
	}
}

// TestNewOnesAreTwo changes one of two.
func TestNewOnesAreTwo(t *testing.T) {
	r, p := filled(t)
	other := New()
	check(t, other, plain{}, "not changed")
	must(t, other.Clear(D), api.OK)
	must(t, other.Write(0x58, 0x08, 3), api.OK)
	check(t, r, p, "changed")
}

func TestUnits(t *testing.T) {
	if I != 0 || D != 1 {
		t.Error(I, D)
	}
}

// TestWriteEachWord puts words into each register, of new ones and of filled ones: no other register changes, but for the tag target, which is the tag access's.
func TestWriteEachWord(t *testing.T) {
	for at, s := range spots {
		if s.place == 0x00 || s.place == 0x20 {
			continue
		}
		fresh, empty := New(), plain{}
		full, p := filled(t)
		for _, v := range words() {
			write(t, fresh, &empty, at, v)
			check(t, fresh, empty, "new", at, v)
			write(t, full, &p, at, v)
			check(t, full, p, "filled", at, v)
		}
	}
}

func TestWriteExamples(t *testing.T) {
	for _, c := range []struct {
		asi      int
		place    uint64
		v, stays uint64
	}{
		{0x58, 0x08, all, 0x1fff}, {0x58, 0x08, 0x2000, 0}, {0x58, 0x08, 8192 + 7, 7}, {0x58, 0x10, all, 0x1fff}, {0x58, 0x10, 0x12345, 0x345},
		{0x50, 0x18, all, 0xff3fff}, {0x58, 0x18, all, 0xff3fff}, {0x50, 0x18, 0xff00c000, 0}, {0x58, 0x18, 0x1018081, 0x18081 - 0x8000},
		{0x50, 0x28, all, 0xfffffffffffff007}, {0x58, 0x28, all, 0xfffffffffffff007}, {0x50, 0x28, 0xff8, 0}, {0x58, 0x28, 0x3fff, 0x3007}, {0x58, 0x28, 1<<63 + 0x1fff, 1<<63 + 0x1007},
		{0x50, 0x30, all, all}, {0x58, 0x30, all, all}, {0x58, 0x30, 0x402005, 0x402005},
	} {
		r := New()
		must(t, r.Write(c.asi, c.place, c.v), api.OK)
		if w, errno := r.Read(c.asi, c.place); w != c.stays || errno != api.OK {
			t.Errorf("Write(%#x, %#x, %#x): %#x, %v", c.asi, c.place, c.v, w, errno)
		}
	}
}

// TestWriteReadAlone: what is read alone is told, and nothing changes.
func TestWriteReadAlone(t *testing.T) {
	for _, s := range []spot{{0x50, 0x00}, {0x58, 0x00}, {0x58, 0x20}} {
		for _, v := range words() {
			r := New()
			must(t, r.Write(s.asi, s.place, v), api.ErrState, s, v)
			check(t, r, plain{}, s, v)
		}
		r, p := filled(t)
		for _, v := range []uint64{0, 1, all} {
			must(t, r.Write(s.asi, s.place, v), api.ErrState, s, v)
			check(t, r, p, s, v)
		}
	}
}

// TestNoSuchRegister: ErrNone is told where there is none, of places too that the other space has, or that are read alone there.
func TestNoSuchRegister(t *testing.T) {
	r, p := filled(t)
	fresh := New()
	for _, s := range none() {
		for _, x := range []*Regs{r, fresh} {
			if w, errno := x.Read(s.asi, s.place); w != 0 || errno != api.ErrNone {
				t.Fatalf("Read(%#x, %#x): %#x, %v", s.asi, s.place, w, errno)
			}
			for _, v := range []uint64{0, 1, all} {
				must(t, x.Write(s.asi, s.place, v), api.ErrNone, s)
			}
			if w, errno := x.Read(s.asi, s.place); w != 0 || errno != api.ErrNone {
				t.Fatalf("Read(%#x, %#x) behind Write: %#x, %v", s.asi, s.place, w, errno)
			}
		}
	}
	check(t, r, p, "filled")
	check(t, fresh, plain{}, "new")
}

func TestWhichErrorIsFirst(t *testing.T) {
	r, p := filled(t)
	for _, c := range []struct {
		asi   int
		place uint64
		want  api.Errno
	}{
		{0x50, 0x00, api.ErrState}, {0x58, 0x00, api.ErrState}, {0x58, 0x20, api.ErrState},
		{0x50, 0x20, api.ErrNone}, {0x50, 0x08, api.ErrNone}, {0x50, 0x10, api.ErrNone}, {0x51, 0x00, api.ErrNone}, {0x51, 0x20, api.ErrNone}, {0x57, 0x20, api.ErrNone}, {0, 0, api.ErrNone}, {-1, 0, api.ErrNone}, {math.MinInt, 0x20, api.ErrNone}, {math.MaxInt, 0, api.ErrNone}, {0x58, 0x38, api.ErrNone}, {0x50, 0x38, api.ErrNone}, {0x58, 1, api.ErrNone}, {0x58, 0x21, api.ErrNone},
	} {
		must(t, r.Write(c.asi, c.place, 5), c.want, c)
	}
	check(t, r, p, "behind errors")
}

// TestTagTarget is by what bits of its own unit's tag access stand in it; those from 13 to 21 do not.
func TestTagTarget(t *testing.T) {
	for unit := range 2 {
		for i := range 64 {
			r, p := New(), plain{}
			write(t, r, &p, accesses[unit], power(i))
			want := uint64(0)
			switch {
			case i < 13:
				want = power(48 + i)
			case i >= 22:
				want = power(i - 22)
			}
			if l := r.All(); l[targets[unit]] != want || l[targets[1-unit]] != 0 {
				t.Errorf("unit %d, bit %d: %x", unit, i, l)
			}
			check(t, r, p, "bit", i)
		}
	}
}

func TestTagTargetExamples(t *testing.T) {
	for _, c := range []struct{ access, want uint64 }{
		{0, 0}, {0x402005, 5<<48 + 1}, {all, 0x1fff03ffffffffff}, {0x3fe000, 0}, {0x1fff, 0x1fff000000000000}, {0x3fffff, 0x1fff000000000000}, {0x400000, 1}, {1 << 63, 1 << 41}, {0xfffff80000402007, 7<<48 + 0x3ffffe00001},
	} {
		for unit, s := range []spot{{0x50, 0x30}, {0x58, 0x30}} {
			r := New()
			must(t, r.Write(s.asi, s.place, c.access), api.OK)
			if w, errno := r.Read(s.asi, 0x00); w != c.want || errno != api.OK {
				t.Errorf("the tag target of %#x of %d: %#x, %v", c.access, unit, w, errno)
			}
			if w, errno := r.Read(0x50+0x58-s.asi, 0x00); w != 0 || errno != api.OK {
				t.Errorf("the other tag target: %#x, %v", w, errno)
			}
		}
	}
}

// TestPrimary is by its own Write alone: not by the secondary context, nor by a miss's.
func TestPrimary(t *testing.T) {
	r := New()
	for _, c := range []struct {
		v    uint64
		want int
	}{{0, 0}, {1, 1}, {5, 5}, {4096, 4096}, {8191, 8191}, {8192, 0}, {8193, 1}, {all, 8191}, {1 << 63, 0}, {1<<32 + 9, 9}} {
		must(t, r.Write(0x58, 0x08, c.v), api.OK)
		must(t, r.Write(0x58, 0x10, 77), api.OK)
		must(t, r.Miss(D, 0x402000, 78), api.OK)
		must(t, r.Miss(I, 0x402000, 79), api.OK)
		must(t, r.Write(0x50, 0x08, 80), api.ErrNone)
		if n := r.Primary(); n != c.want {
			t.Errorf("Primary behind %#x: %d", c.v, n)
		}
	}
}

// TestAllIsNew changes what was told, which the registers are not changed by.
func TestAllIsNew(t *testing.T) {
	r, p := filled(t)
	l, m := r.All(), r.All()
	clear(l)
	l = append(l[:3], all, all)
	if !slices.Equal(m, p[:]) || len(l) != 5 {
		t.Error(l, m)
	}
	check(t, r, p, "behind a list changed")
}

// P7.2

func TestMissExamples(t *testing.T) {
	for _, c := range []struct {
		va             uint64
		ctx            int
		access, target uint64
	}{
		{0x402000, 5, 0x402005, 5<<48 + 1}, {0x402fff, 5, 0x402005, 5<<48 + 1}, {0x403fff, 5, 0x402005, 5<<48 + 1}, {0x402000, 0, 0x402000, 1}, {0x403fff, 0, 0x402000, 1}, {0x402000, 8191, 0x403fff, 0x1fff<<48 + 1}, {0, 0, 0, 0}, {0x1fff, 0, 0, 0}, {0, 8191, 8191, 0x1fff << 48},
		{all, 0, all - 8191, 0x3ffffffffff}, {all, 8191, all, 0x1fff03ffffffffff}, {0xfffff80000402123, 7, 0xfffff80000402007, 7<<48 + 0x3ffffe00001}, {1 << 43, 1, 1<<43 + 1, 1<<48 + 1<<21},
	} {
		for unit, asi := range []int{0x50, 0x58} {
			r := New()
			must(t, r.Miss(unit, c.va, c.ctx), api.OK, c)
			if w, errno := r.Read(asi, 0x30); w != c.access || errno != api.OK {
				t.Errorf("Miss(%d, %#x, %d): tag access %#x, %v", unit, c.va, c.ctx, w, errno)
			}
			if w, errno := r.Read(asi, 0x00); w != c.target || errno != api.OK {
				t.Errorf("Miss(%d, %#x, %d): tag target %#x, %v", unit, c.va, c.ctx, w, errno)
			}
		}
	}
}

// TestMissEverywhere: a miss changes its own unit's tag access, and its tag target, alone.
func TestMissEverywhere(t *testing.T) {
	r, p := New(), plain{}
	full, q := filled(t)
	for _, va := range vas {
		for _, ctx := range []int{0, 1, 2, 5, 0x555, 0xaaa, 4095, 4096, 8190, 8191} {
			for unit := range 2 {
				miss(t, r, &p, unit, va, ctx)
				check(t, r, p, "Miss", unit, va, ctx)
				miss(t, full, &q, unit, va, ctx)
				check(t, full, q, "Miss", unit, va, ctx)
			}
		}
	}
}

// TestMissEachContext goes through all of them.
func TestMissEachContext(t *testing.T) {
	r := New()
	for ctx := range 8192 {
		unit := ctx % 2
		must(t, r.Miss(unit, 0x7fc02aaa, ctx), api.OK, ctx)
		l := r.All()
		if l[accesses[unit]] != 0x7fc02000+uint64(ctx) || l[targets[unit]] != uint64(ctx)*power(48)+0x7fc02000/power(22) {
			t.Fatalf("%d: %x", ctx, l)
		}
	}
}

func TestMissWrong(t *testing.T) {
	r, p := filled(t)
	for _, unit := range append([]int{2, 3, 0x50, 0x58}, edgeInts...) {
		for _, ctx := range []int{0, 5, 8191, 8192, -1} {
			must(t, r.Miss(unit, 0x402000, ctx), api.ErrArg, unit, ctx)
		}
	}
	for _, ctx := range append([]int{8192, 8193, 8192 + 5, 16384, 16383, 65536}, edgeInts...) {
		for unit := range 2 {
			for _, va := range []uint64{0, 0x402000, all} {
				must(t, r.Miss(unit, va, ctx), api.ErrArg, unit, va, ctx)
			}
		}
	}
	check(t, r, p, "behind wrong ones")
}

func TestFaultExamples(t *testing.T) {
	for _, c := range []struct {
		kind, asi   int
		store, priv bool
		want        uint64
	}{
		{0, 0, false, false, 1}, {0, 0, true, false, 5}, {0, 0, false, true, 9}, {0, 0, true, true, 13},
		{1, 0, false, false, 0x81}, {127, 0, false, false, 0x3f81}, {64, 0, false, false, 0x2001}, {0, 1, false, false, 0x10001}, {0, 255, false, false, 0xff0001}, {0, 128, false, false, 0x800001},
		{127, 255, true, true, 0xff3f8d}, {5, 0x80, true, true, 0x80028d}, {2, 1, false, true, 0x10109}, {0x20, 0x80, false, false, 0x801001},
	} {
		for unit, asi := range []int{0x50, 0x58} {
			r := New()
			must(t, r.Fault(unit, c.kind, c.asi, c.store, c.priv, 99), api.OK, c)
			if w, errno := r.Read(asi, 0x18); w != c.want || errno != api.OK {
				t.Errorf("Fault of %d %+v: %#x, %v", unit, c, w, errno)
			}
			must(t, r.Fault(unit, c.kind, c.asi, c.store, c.priv, 99), api.OK, c)
			if w, errno := r.Read(asi, 0x18); w != c.want+2 || errno != api.OK {
				t.Errorf("Fault of %d %+v again: %#x, %v", unit, c, w, errno)
			}
		}
	}
}

// TestFaultEverywhere goes through all types and spaces, of new registers, of filled ones, and one behind the other.
func TestFaultEverywhere(t *testing.T) {
	full, q := filled(t)
	for kind := range 128 {
		for asi := range 256 {
			if kind%16 != 0 && kind != 127 && asi%16 != 0 && asi != 255 {
				continue
			}
			i := kind + 3*asi
			unit, store, priv, va := i%2, i/2%2 == 0, i/4%2 == 0, vas[i%len(vas)]
			r, p := New(), plain{}
			fault(t, r, &p, unit, kind, asi, store, priv, va)
			check(t, r, p, "new", unit, kind, asi, store, priv, va)
			fault(t, full, &q, unit, kind, asi, store, priv, va)
			check(t, full, q, "filled", unit, kind, asi, store, priv, va)
		}
	}
}

// TestFaultTwice: the second one tells that there was one ahead, and is told alone beside that; a Clear, and the other unit's, are none ahead.
func TestFaultTwice(t *testing.T) {
	for unit := range 2 {
		for _, store := range []bool{false, true} {
			for _, priv := range []bool{false, true} {
				r, p := New(), plain{}
				for i, c := range []struct {
					unit, kind, asi int
					store, priv     bool
					again           uint64
				}{
					{unit, 127, 255, store, priv, 0}, {unit, 0, 0, !store, !priv, 2}, {1 - unit, 3, 4, store, !priv, 0}, {unit, 85, 170, store, priv, 2}, {1 - unit, 0, 0, false, false, 2},
				} {
					fault(t, r, &p, c.unit, c.kind, c.asi, c.store, c.priv, vas[i])
					check(t, r, p, "fault", i)
					if w := r.All()[statuses[c.unit]]; w%4 != 1+c.again {
						t.Errorf("fault %d of %d: %#x", i, c.unit, w)
					}
				}
				must(t, r.Clear(unit), api.OK)
				fault(t, r, &p, 1-unit, 9, 9, store, priv, 9)
				p[statuses[unit]] = 0
				fault(t, r, &p, unit, 9, 9, store, priv, 9)
				check(t, r, p, "behind Clear")
				if l := r.All(); l[statuses[unit]]%4 != 1 || l[statuses[1-unit]]%4 != 3 {
					t.Errorf("behind Clear of %d: %x", unit, l)
				}
			}
		}
	}
}

// TestFaultBehindWrite: only the bit 0 of what was written tells of one ahead, and nothing of it stays.
func TestFaultBehindWrite(t *testing.T) {
	for unit := range 2 {
		for _, v := range words() {
			r, p := New(), plain{}
			write(t, r, &p, statuses[unit], v)
			fault(t, r, &p, unit, 2, 1, false, true, 99)
			check(t, r, p, "behind", v)
			if w := r.All()[statuses[unit]]; w != 0x10109+v%2*2 {
				t.Errorf("behind %#x: %#x", v, w)
			}
		}
	}
}

// TestFaultAddress: a fault of D tells its address, whole; one of I leaves it, and neither a miss nor a Clear tells it.
func TestFaultAddress(t *testing.T) {
	r := New()
	for _, va := range append(words(), vas...) {
		must(t, r.Fault(D, 1, 2, true, false, va), api.OK)
		must(t, r.Fault(I, 1, 2, true, false, va+8191), api.OK)
		must(t, r.Miss(D, va+1, 3), api.OK)
		must(t, r.Miss(I, va+1, 3), api.OK)
		must(t, r.Clear(D), api.OK)
		must(t, r.Clear(I), api.OK)
		if w, errno := r.Read(0x58, 0x20); w != va || errno != api.OK {
			t.Errorf("the fault address of %#x: %#x, %v", va, w, errno)
		}
	}
	only := New()
	must(t, only.Fault(I, 1, 2, true, false, 99), api.OK)
	if w, errno := only.Read(0x58, 0x20); w != 0 || errno != api.OK {
		t.Errorf("the fault address behind one of I: %#x, %v", w, errno)
	}
}

func TestFaultWrong(t *testing.T) {
	r, p := filled(t)
	fresh := New()
	wrong := func(unit, kind, asi int) {
		t.Helper()
		for _, is := range []bool{false, true} {
			must(t, r.Fault(unit, kind, asi, is, !is, 99), api.ErrArg, unit, kind, asi)
			must(t, fresh.Fault(unit, kind, asi, is, is, 99), api.ErrArg, unit, kind, asi)
		}
	}
	for _, unit := range append([]int{2, 3, 0x50, 0x58}, edgeInts...) {
		wrong(unit, 0, 0)
		wrong(unit, 127, 255)
		wrong(unit, 128, 256)
	}
	for unit := range 2 {
		for _, kind := range append([]int{128, 129, 255, 256, 128 + 5, 8192}, edgeInts...) {
			wrong(unit, kind, 0)
			wrong(unit, kind, 255)
		}
		for _, asi := range append([]int{256, 257, 256 + 5, 511, 512, 0x150, 8192}, edgeInts...) {
			wrong(unit, 0, asi)
			wrong(unit, 127, asi)
		}
		wrong(unit, 128, 256)
		wrong(unit, -1, -1)
	}
	check(t, r, p, "behind wrong ones")
	check(t, fresh, plain{}, "behind wrong ones")
}

// TestClear: the unit's fault status alone is 0, and stays so when it is cleared again.
func TestClear(t *testing.T) {
	for unit := range 2 {
		r, p := filled(t)
		p[statuses[unit]] = 0
		for range 2 {
			must(t, r.Clear(unit), api.OK)
			check(t, r, p, "Clear", unit)
		}
		fresh := New()
		must(t, fresh.Clear(unit), api.OK)
		check(t, fresh, plain{}, "Clear of a new one", unit)
	}
}

func TestClearWrong(t *testing.T) {
	r, p := filled(t)
	for _, unit := range append([]int{2, 3, 0x50, 0x58}, edgeInts...) {
		must(t, r.Clear(unit), api.ErrArg, unit)
	}
	check(t, r, p, "behind wrong ones")
}

// P7.3

// TestReadingChangesNothing asks all calls that tell, right and wrong, many times.
func TestReadingChangesNothing(t *testing.T) {
	r, p := filled(t)
	fault(t, r, &p, I, 1, 1, true, true, 1)
	fresh := New()
	for range 3 {
		for _, s := range append(none(), spots...) {
			r.Read(s.asi, s.place)
			fresh.Read(s.asi, s.place)
		}
		r.Primary()
		r.All()
		check(t, r, p, "read")
		check(t, fresh, plain{}, "read")
	}
	fault(t, fresh, &plain{}, I, 0, 0, false, false, 0)
	if w := fresh.All()[iStatus]; w != 1 {
		t.Errorf("reading was a fault ahead: %#x", w)
	}
}

// anyOf is one of a list.
func anyOf[T any](r *rand.Rand, l []T) T { return l[r.Intn(len(l))] }

// step makes one call, right or wrong, of both, and holds what is told against what must be.
func step(t *testing.T, x *rand.Rand, r *Regs, p *plain, no []spot, said ...any) {
	t.Helper()
	unit, va := x.Intn(2), anyOf(x, vas)^x.Uint64()>>anyOf(x, []int{0, 20, 51, 63})
	store, priv := x.Intn(2) == 0, x.Intn(2) == 0
	wrongUnit := anyOf(x, append([]int{2}, edgeInts...))
	switch x.Intn(10) {
	case 0, 1, 2:
		at := x.Intn(len(spots))
		if s := spots[at]; s.place == 0x00 || s.place == 0x20 {
			must(t, r.Write(s.asi, s.place, va), api.ErrState, said...)
		} else {
			write(t, r, p, at, va)
		}
	case 3:
		s := anyOf(x, no)
		must(t, r.Write(s.asi, s.place, va), api.ErrNone, said...)
	case 4, 5:
		miss(t, r, p, unit, va, x.Intn(8192))
	case 6, 7:
		fault(t, r, p, unit, x.Intn(128), x.Intn(256), store, priv, va)
	case 8:
		must(t, r.Clear(unit), api.OK, said...)
		p[statuses[unit]] = 0
	case 9:
		must(t, r.Miss(wrongUnit, va, 5), api.ErrArg, said...)
		must(t, r.Miss(unit, va, anyOf(x, append([]int{8192}, edgeInts...))), api.ErrArg, said...)
		must(t, r.Fault(wrongUnit, 5, 5, store, priv, va), api.ErrArg, said...)
		must(t, r.Fault(unit, anyOf(x, append([]int{128}, edgeInts...)), 5, store, priv, va), api.ErrArg, said...)
		must(t, r.Fault(unit, 5, anyOf(x, append([]int{256}, edgeInts...)), store, priv, va), api.ErrArg, said...)
		must(t, r.Clear(wrongUnit), api.ErrArg, said...)
	}
}

// TestAnyCalls makes right and wrong calls one behind the other, and holds all registers behind each against the plain ones.
func TestAnyCalls(t *testing.T) {
	x, no := rand.New(rand.NewSource(7)), none()
	for round := range 200 {
		r, p := New(), plain{}
		for i := range 100 {
			step(t, x, r, &p, no, "round", round, "step", i)
			check(t, r, p, "round", round, "step", i)
		}
	}
}

// TestSameCallsSameAnswers: two that were told the same tell the same.
func TestSameCallsSameAnswers(t *testing.T) {
	a, b := New(), New()
	p, q := plain{}, plain{}
	x, y, no := rand.New(rand.NewSource(77)), rand.New(rand.NewSource(77)), none()
	for i := range 1000 {
		step(t, x, a, &p, no, i)
		step(t, y, b, &q, no, i)
		if l, m := a.All(), b.All(); !slices.Equal(l, m) || a.Primary() != b.Primary() {
			t.Fatalf("%d: %x, %x", i, l, m)
		}
	}
}
