package tte

import (
	"math"
	"testing"

	"lookaside/api"
)

const (
	top      = ^uint64(0)
	holeFrom = uint64(1) << 43            // the first address in the hole
	holeTo   = uint64(0xfffff80000000000) // the first one behind it
	paEnd    = uint64(1) << 41            // the first address that no frame has
	bad      = uint64(0x7fffffffffffffff)
)

// bytes are the pages' bytes, written out; what the tests hold the package against is made of them by dividing and adding.
var bytes = []uint64{8192, 65536, 524288, 4194304}

var wrongSizes = []int{math.MinInt, -1 << 32, -5, -4, -3, -2, -1, 4, 5, 6, 7, 8, 64, 1 << 32, 1 << 62, math.MaxInt}

var rightCtxs = []int{0, 1, 2, 5, 4095, 4096, 8190, 8191}

// wrongCtxs are no contexts; the least 13 bits of some are one's.
var wrongCtxs = []int{math.MinInt, -8192, -8191, -2, -1, 8192, 8193, 16383, 16384, 1 << 32, 1<<32 + 5, math.MaxInt}

// attrCases are all 64 of the attributes, by six bits.
func attrCases() []api.Attr {
	var l []api.Attr
	for i := range 64 {
		l = append(l, api.Attr{Write: i&1 > 0, Priv: i&2 > 0, Exec: i&4 > 0, Lock: i&8 > 0, Global: i&16 > 0, Quiet: i&32 > 0})
	}
	return l
}

// rightVas are where pages of n bytes begin: first and last ones on either side of the hole, and some between.
func rightVas(n uint64) []uint64 {
	return []uint64{0, n, 2 * n, 7 * n, 511 * n, 4194304, 0x12345 * 4194304, 1 << 42, holeFrom - 2*n, holeFrom - n,
		holeTo, holeTo + n, holeTo + 4194304, holeTo + 0x54321*4194304 + n, top - n + 1}
}

// rightPas are where frames of n bytes begin.
func rightPas(n uint64) []uint64 {
	return []uint64{0, n, 2 * n, 5 * n, 1 << 22, 1 << 40, 0x5555555 * 8192 / n * n, 0xaaaaaaa * 8192 / n * n, paEnd - 2*n, paEnd - n}
}

// entries are many that may be: of each size all rightVas with one frame and all rightPas at one address, each with some contexts and attributes.
func entries() []api.Entry {
	var l []api.Entry
	add := func(e api.Entry) {
		for i, a := range attrCases() {
			e.Attr, e.Ctx = a, rightCtxs[i%len(rightCtxs)]
			if a.Global {
				e.Ctx = 0
			}
			l = append(l, e)
		}
	}
	for size, n := range bytes {
		for _, va := range rightVas(n) {
			add(api.Entry{Valid: true, Size: size, Va: va, Pa: 3 * n})
		}
		for _, pa := range rightPas(n) {
			add(api.Entry{Valid: true, Size: size, Va: holeTo + 9*n, Pa: pa})
		}
		for _, ctx := range rightCtxs {
			l = append(l, api.Entry{Valid: true, Size: size, Ctx: ctx, Va: 3 * n, Pa: n})
		}
	}
	return l
}

func one(is bool) uint64 {
	if is {
		return 1
	}
	return 0
}

// wantTag and wantData are an entry's words as sums of numbers times powers of 2.
func wantTag(e api.Entry) uint64 {
	return one(e.Attr.Global)*(1<<63) + uint64(e.Ctx)*(1<<48) + e.Va/4194304%4194304
}

func wantData(e api.Entry) uint64 {
	a := e.Attr
	return one(e.Valid)*(1<<63) + uint64(e.Size)*(1<<61) + one(a.Quiet)*(1<<60) + e.Pa/8192*8192 +
		one(a.Lock)*64 + one(a.Exec)*8 + one(a.Priv)*4 + one(a.Write)*2 + one(a.Global)
}

// P3.1

func TestMayOfThoseThatMay(t *testing.T) {
	for _, e := range entries() {
		if !May(e) {
			t.Fatalf("May(%+v) is false", e)
		}
	}
}

func TestMayOfEmptyAndNotValid(t *testing.T) {
	if May(api.Entry{}) {
		t.Error("the zero entry may be")
	}
	if !May(api.Entry{Valid: true}) {
		t.Error("the zero entry that is Valid may not be")
	}
	for _, e := range entries() {
		if e.Valid = false; May(e) {
			t.Fatalf("May(%+v) is true", e)
		}
	}
}

func TestMayOfWrongSizes(t *testing.T) {
	for _, size := range wrongSizes {
		for _, va := range []uint64{0, 8192, 4194304, holeTo} {
			if e := (api.Entry{Valid: true, Size: size, Va: va, Pa: 4194304}); May(e) {
				t.Errorf("May(%+v) is true", e)
			}
		}
	}
}

func TestMayOfContexts(t *testing.T) {
	for size := range bytes {
		for _, ctx := range wrongCtxs {
			if e := (api.Entry{Valid: true, Size: size, Ctx: ctx}); May(e) {
				t.Fatalf("May(%+v) is true", e)
			}
		}
		for ctx := range 8192 {
			if e := (api.Entry{Valid: true, Size: size, Ctx: ctx}); !May(e) {
				t.Fatalf("May(%+v) is false", e)
			}
		}
	}
}

func TestMayOfGlobalWithContext(t *testing.T) {
	for size := range bytes {
		e := api.Entry{Valid: true, Size: size, Attr: api.Attr{Global: true}}
		if !May(e) {
			t.Errorf("May(%+v) is false", e)
		}
		for _, ctx := range append(wrongCtxs, rightCtxs[1:]...) {
			if e.Ctx = ctx; May(e) {
				t.Errorf("May(%+v) is true", e)
			}
		}
	}
}

func TestMayOfTheHole(t *testing.T) {
	for size, n := range bytes {
		for _, va := range []uint64{holeFrom, holeFrom + n, 1 << 44, 1<<44 + holeFrom, 1 << 62, 1 << 63, 0xfffff00000000000, holeTo - 2*n, holeTo - n} {
			if e := (api.Entry{Valid: true, Size: size, Va: va}); May(e) {
				t.Errorf("May(%+v) is true", e)
			}
		}
	}
}

// TestMayOfBetween moves Va and Pa off a page's beginning by each power of 2 below its bytes, and by a byte back.
func TestMayOfBetween(t *testing.T) {
	for size, n := range bytes {
		for off := uint64(1); off < n; off *= 2 {
			for _, va := range rightVas(n) {
				if e := (api.Entry{Valid: true, Size: size, Va: va + off}); May(e) {
					t.Fatalf("May(%+v) is true", e)
				}
				if e := (api.Entry{Valid: true, Size: size, Va: va - off}); May(e) {
					t.Fatalf("May(%+v) is true", e)
				}
			}
			for _, pa := range rightPas(n) {
				if e := (api.Entry{Valid: true, Size: size, Pa: pa + off}); May(e) {
					t.Fatalf("May(%+v) is true", e)
				}
			}
		}
	}
}

func TestMayOfFramesTooHigh(t *testing.T) {
	for size, n := range bytes {
		if e := (api.Entry{Valid: true, Size: size, Pa: paEnd - n}); !May(e) {
			t.Errorf("May(%+v) is false", e)
		}
		for _, pa := range []uint64{paEnd, paEnd + n, 1 << 42, holeFrom, 1 << 63, holeTo, top - n + 1} {
			if e := (api.Entry{Valid: true, Size: size, Pa: pa}); May(e) {
				t.Errorf("May(%+v) is true", e)
			}
		}
	}
}

func TestWordsExamples(t *testing.T) {
	for _, c := range []struct {
		e         api.Entry
		tag, data uint64
	}{
		{api.Entry{Valid: true, Ctx: 1, Va: 8192, Pa: 16384, Attr: api.Attr{Write: true}}, 1 << 48, 1<<63 + 16386},
		{api.Entry{Valid: true}, 0, 1 << 63},
		{api.Entry{Valid: true, Size: 1}, 0, 0xa000000000000000},
		{api.Entry{Valid: true, Size: 2}, 0, 0xc000000000000000},
		{api.Entry{Valid: true, Size: 3}, 0, 0xe000000000000000},
		{api.Entry{Valid: true, Ctx: 8191, Va: top - 8191, Pa: paEnd - 8192}, 0x1fff0000003fffff, 0x800001ffffffe000},
		{api.Entry{Valid: true, Ctx: 8190, Va: holeFrom - 8192, Pa: 8192}, 0x1ffe0000001fffff, 0x8000000000002000},
		{api.Entry{Valid: true, Va: holeTo, Pa: 1 << 40}, 0x200000, 0x8000010000000000},
		{api.Entry{Valid: true, Size: 3, Va: 4194304, Pa: 4194304, Attr: api.Attr{Global: true}}, 0x8000000000000001, 0xe000000000400001},
		{api.Entry{Valid: true, Attr: api.Attr{Write: true}}, 0, 0x8000000000000002},
		{api.Entry{Valid: true, Attr: api.Attr{Priv: true}}, 0, 0x8000000000000004},
		{api.Entry{Valid: true, Attr: api.Attr{Exec: true}}, 0, 0x8000000000000008},
		{api.Entry{Valid: true, Attr: api.Attr{Lock: true}}, 0, 0x8000000000000040},
		{api.Entry{Valid: true, Attr: api.Attr{Global: true}}, 1 << 63, 0x8000000000000001},
		{api.Entry{Valid: true, Attr: api.Attr{Quiet: true}}, 0, 0x9000000000000000},
		{api.Entry{Valid: true, Attr: api.Attr{Write: true, Priv: true, Exec: true, Lock: true, Global: true, Quiet: true}}, 1 << 63, 0x900000000000004f},
	} {
		if tag, data := Tag(c.e), Data(c.e); tag != c.tag || data != c.data {
			t.Errorf("%+v: Tag %#x, Data %#x", c.e, tag, data)
		}
	}
}

func TestWordsEverywhere(t *testing.T) {
	for _, e := range entries() {
		if tag := Tag(e); tag != wantTag(e) {
			t.Fatalf("Tag(%+v) is %#x", e, tag)
		}
		if data := Data(e); data != wantData(e) {
			t.Fatalf("Data(%+v) is %#x", e, data)
		}
	}
}

func TestDataOfNotValid(t *testing.T) {
	for _, e := range entries() {
		if e.Valid = false; Data(e) != 0 {
			t.Fatalf("Data(%+v) is %#x", e, Data(e))
		}
	}
}

func TestTarget(t *testing.T) {
	for _, va := range []uint64{0, 8191, 8192, 4194303, 4194304, 0x402000, 1 << 42, holeFrom - 1, holeFrom, 1 << 44, holeTo - 1, holeTo, holeTo + 0x402001, top} {
		for _, ctx := range rightCtxs {
			if tag := Target(va, ctx); tag != uint64(ctx)*(1<<48)+va/4194304%4194304 {
				t.Errorf("Target(%#x, %d) is %#x", va, ctx, tag)
			}
		}
	}
}

// TestTargetIsTheTag: the target of each address of a page is the tag of the page's entry that is not Global.
func TestTargetIsTheTag(t *testing.T) {
	for _, e := range entries() {
		for _, va := range inside(e) {
			if is := Target(va, e.Ctx) == Tag(e); is == e.Attr.Global {
				t.Fatalf("%+v: Target at %#x is %#x, Tag %#x", e, va, Target(va, e.Ctx), Tag(e))
			}
		}
	}
}

func TestValid(t *testing.T) {
	for _, w := range []uint64{0, 1, bad, 1 << 62, 0x7000000000000000, 16386} {
		if Valid(w) {
			t.Errorf("Valid(%#x) is true", w)
		}
		if !Valid(w | 1<<63) {
			t.Errorf("Valid(%#x) is false", w|1<<63)
		}
	}
	for _, e := range entries() {
		if !Valid(Data(e)) {
			t.Errorf("the data of %+v are not valid", e)
		}
		if e.Valid = false; Valid(Data(e)) {
			t.Errorf("the data of %+v are valid", e)
		}
	}
}

func TestBad(t *testing.T) {
	if Bad() != bad {
		t.Errorf("Bad is %#x", Bad())
	}
	for _, e := range entries() {
		if Tag(e) == Bad() {
			t.Errorf("the tag of %+v is Bad", e)
		}
		if x, errno := Read(Bad(), Data(e), e.Va); x != (api.Entry{}) || errno != api.ErrForm {
			t.Errorf("Bad and the data of %+v are read as %+v, %d", e, x, errno)
		}
	}
}

// P3.2

func TestReadExamples(t *testing.T) {
	write := api.Attr{Write: true}
	for _, c := range []struct {
		tag, data, va uint64
		e             api.Entry
	}{
		{1 << 48, 1<<63 + 16386, 8192, api.Entry{Valid: true, Ctx: 1, Va: 8192, Pa: 16384, Attr: write}},
		{1 << 48, 1<<63 + 16386, 16383, api.Entry{Valid: true, Ctx: 1, Va: 8192, Pa: 16384, Attr: write}},
		// The words tell of an address no more than what its tag has: the rest is told by va.
		{1 << 48, 1<<63 + 16386, 8191, api.Entry{Valid: true, Ctx: 1, Va: 0, Pa: 16384, Attr: write}},
		{1 << 48, 1<<63 + 16386, 4194303, api.Entry{Valid: true, Ctx: 1, Va: 4194304 - 8192, Pa: 16384, Attr: write}},
		{0, 1 << 63, 0, api.Entry{Valid: true}},
		{0x3fffff, 1 << 63, top, api.Entry{Valid: true, Va: top - 8191}},
		{0x200000, 0xe000000000000000, holeTo + 5, api.Entry{Valid: true, Size: 3, Va: holeTo}},
		{0x1fffff, 0xe000000000000000, holeFrom - 1, api.Entry{Valid: true, Size: 3, Va: holeFrom - 4194304}},
		{1 << 63, 0x900000000000004f, 1, api.Entry{Valid: true, Attr: api.Attr{Write: true, Priv: true, Exec: true, Lock: true, Global: true, Quiet: true}}},
		{0x1fff000000000000, 0x800001ffffffe000, 0, api.Entry{Valid: true, Ctx: 8191, Pa: paEnd - 8192}},
	} {
		if e, errno := Read(c.tag, c.data, c.va); e != c.e || errno != api.OK {
			t.Errorf("Read(%#x, %#x, %#x) is %+v, %d", c.tag, c.data, c.va, e, errno)
		}
	}
}

// TestReadRefuses: ErrHole comes ahead of ErrState, and that ahead of ErrForm.
func TestReadRefuses(t *testing.T) {
	for _, c := range []struct {
		tag, data, va uint64
		want          api.Errno
	}{
		{0, 1 << 63, holeFrom, api.ErrHole}, {0x200000, 1 << 63, holeFrom, api.ErrHole}, {0x1fffff, 1 << 63, holeTo - 1, api.ErrHole}, {0, 1 << 63, 1 << 44, api.ErrHole}, {0, 1 << 63, 1 << 63, api.ErrHole},
		{0, 0, holeFrom, api.ErrHole}, {bad, 0, holeFrom, api.ErrHole}, {bad, 1 << 63, holeTo - 1, api.ErrHole}, {bad, bad, 1 << 50, api.ErrHole}, {top, top, 1 << 50, api.ErrHole},
		{0, 0, 0, api.ErrState}, {0, bad, 0, api.ErrState}, {bad, 0, 0, api.ErrState}, {top, bad, 0, api.ErrState}, {0, 16386, 8192, api.ErrState}, {1, 0, 0, api.ErrState}, {0, 0, top, api.ErrState},
		{bad, 1 << 63, 0, api.ErrForm}, {top, top, 0, api.ErrForm}, {bad, top, top, api.ErrForm}, {0, top, 0, api.ErrForm},
		{0, 1 << 63, 4194304, api.ErrForm}, {1, 1 << 63, 0, api.ErrForm}, {1, 1 << 63, 4194303, api.ErrForm}, {1, 1 << 63, 8388608, api.ErrForm},
		{0x200000, 1 << 63, holeFrom - 1, api.ErrForm}, {0x1fffff, 1 << 63, holeTo, api.ErrForm}, {0, 1 << 63, top, api.ErrForm},
		{1 << 63, 1 << 63, 0, api.ErrForm}, {0, 1<<63 + 1, 0, api.ErrForm}, {1<<63 + 1<<48, 1<<63 + 1, 0, api.ErrForm}, {1<<63 + 0x1fff<<48, 1<<63 + 1, 0, api.ErrForm},
		{0, 1<<63 + 1<<61 + 8192, 0, api.ErrForm}, {0, 1<<63 + 2<<61 + 65536, 0, api.ErrForm}, {0, 1<<63 + 3<<61 + 524288, 0, api.ErrForm},
		{0, 1<<63 + paEnd, 0, api.ErrForm}, {0, 1<<63 + 1<<59, 0, api.ErrForm}, {0, 1<<63 + 4096, 0, api.ErrForm},
	} {
		if e, errno := Read(c.tag, c.data, c.va); e != (api.Entry{}) || errno != c.want {
			t.Errorf("Read(%#x, %#x, %#x) is %+v, %d", c.tag, c.data, c.va, e, errno)
		}
	}
}

// turnedTag is what an entry's words are read as, with one bit of its tag turned.
func turnedTag(e api.Entry, i int) (api.Entry, api.Errno) {
	if i < 48 || i > 60 || e.Attr.Global {
		return api.Entry{}, api.ErrForm
	}
	e.Ctx ^= 1 << (i - 48)
	return e, api.OK
}

// turnedData is what an entry's words are read as at va, with one bit of its data turned.
func turnedData(e api.Entry, i int, va uint64) (api.Entry, api.Errno) {
	switch {
	case i == 63:
		return api.Entry{}, api.ErrState
	case i == 61 || i == 62:
		e.Size ^= 1 << (i - 61)
		e.Va = va / bytes[e.Size] * bytes[e.Size]
	case i == 60:
		e.Attr.Quiet = !e.Attr.Quiet
	case i >= 13 && i <= 40:
		e.Pa ^= 1 << i
	case i == 6:
		e.Attr.Lock = !e.Attr.Lock
	case i == 3:
		e.Attr.Exec = !e.Attr.Exec
	case i == 2:
		e.Attr.Priv = !e.Attr.Priv
	case i == 1:
		e.Attr.Write = !e.Attr.Write
	default: // the bit 0, too: the tag says otherwise
		return api.Entry{}, api.ErrForm
	}
	if e.Pa%bytes[e.Size] != 0 {
		return api.Entry{}, api.ErrForm
	}
	return e, api.OK
}

func TestReadWithEachBitTurned(t *testing.T) {
	for _, e := range entries() {
		tag, data, va := wantTag(e), wantData(e), e.Va+bytes[e.Size]/2+1
		for i := range 64 {
			want, wantErrno := turnedTag(e, i)
			if x, errno := Read(tag^1<<i, data, va); x != want || errno != wantErrno {
				t.Fatalf("%+v, the tag's bit %d turned: %+v, %d", e, i, x, errno)
			}
			want, wantErrno = turnedData(e, i, va)
			if x, errno := Read(tag, data^1<<i, va); x != want || errno != wantErrno {
				t.Fatalf("%+v, the data's bit %d turned: %+v, %d", e, i, x, errno)
			}
		}
	}
}

// TestReadOfWhatMayNotBe: the words that an entry would have, if it might be, are not read as it.
func TestReadOfWhatMayNotBe(t *testing.T) {
	for size, n := range bytes {
		for _, e := range []api.Entry{
			{Valid: true, Size: size, Ctx: 8192}, {Valid: true, Size: size, Ctx: 16384 + 5}, {Valid: true, Size: size, Ctx: 5, Attr: api.Attr{Global: true}},
			{Valid: true, Size: size, Pa: paEnd}, {Valid: true, Size: size, Pa: paEnd + n}, {Valid: true, Size: size, Pa: holeFrom},
		} {
			if x, errno := Read(wantTag(e), wantData(e), e.Va); x != (api.Entry{}) || errno != api.ErrForm {
				t.Errorf("the words of %+v are read as %+v, %d", e, x, errno)
			}
		}
	}
}

// P3.3

// inside are addresses of an entry's page, both ends among them.
func inside(e api.Entry) []uint64 {
	n := bytes[e.Size]
	return []uint64{e.Va, e.Va + 1, e.Va + 8, e.Va + 0x1234, e.Va + n/2 - 1, e.Va + n/2, e.Va + n - 2, e.Va + n - 1}
}

// outside are addresses that are not in its page: around it, and those that differ from one of its own by one bit above the offset.
func outside(e api.Entry) []uint64 {
	n := bytes[e.Size]
	l := []uint64{e.Va - 1, e.Va - n, e.Va + n, e.Va + n + 1, e.Va + 2*n - 1}
	for bit := n; bit != 0; bit *= 2 {
		l = append(l, e.Va^bit, (e.Va+n-1)^bit)
	}
	return l
}

func TestHits(t *testing.T) {
	ctxs := append(wrongCtxs, rightCtxs...)
	for _, e := range entries() {
		for _, va := range inside(e) {
			for _, ctx := range ctxs {
				if is := Hits(e, va, ctx); is != (e.Attr.Global || ctx == e.Ctx) {
					t.Fatalf("Hits(%+v, %#x, %d) is %v", e, va, ctx, is)
				}
			}
		}
		for _, va := range outside(e) {
			if Hits(e, va, e.Ctx) {
				t.Fatalf("Hits(%+v, %#x, %d) is true", e, va, e.Ctx)
			}
		}
	}
}

func TestFrame(t *testing.T) {
	for _, e := range entries() {
		for _, va := range inside(e) {
			if pa, is := Frame(e, va); pa != e.Pa+va%bytes[e.Size] || !is {
				t.Fatalf("Frame(%+v, %#x) is %#x, %v", e, va, pa, is)
			}
		}
		for _, va := range outside(e) {
			if pa, is := Frame(e, va); pa != 0 || is {
				t.Fatalf("Frame(%+v, %#x) is %#x, %v", e, va, pa, is)
			}
		}
	}
}

func TestFrameExamples(t *testing.T) {
	for _, c := range []struct {
		e      api.Entry
		va, pa uint64
	}{
		{api.Entry{Valid: true, Va: 8192, Pa: 16384}, 8192, 16384},
		{api.Entry{Valid: true, Va: 8192, Pa: 16384}, 16383, 24575},
		{api.Entry{Valid: true, Size: 1, Va: holeTo, Pa: 0x20000}, holeTo + 0x1234, 0x21234},
		{api.Entry{Valid: true, Size: 3, Va: top - 4194303, Pa: paEnd - 4194304}, top, paEnd - 1},
		{api.Entry{Valid: true, Size: 2, Ctx: 7, Va: 524288}, 524289, 1},
	} {
		if pa, is := Frame(c.e, c.va); pa != c.pa || !is {
			t.Errorf("Frame(%+v, %#x) is %#x, %v", c.e, c.va, pa, is)
		}
	}
}

// TestNothingOfWrongEntries: one that is not Valid, or has no size, has no address.
func TestNothingOfWrongEntries(t *testing.T) {
	check := func(e api.Entry, va uint64) {
		pa, is := Frame(e, va)
		if Hits(e, va, e.Ctx) || pa != 0 || is {
			t.Fatalf("%+v at %#x: Hits %v, Frame %#x, %v", e, va, Hits(e, va, e.Ctx), pa, is)
		}
	}
	for _, e := range entries() {
		e.Valid = false
		for _, va := range inside(e) {
			check(e, va)
		}
	}
	for _, size := range wrongSizes {
		for _, va := range []uint64{0, 1, 8192, holeTo, top} {
			check(api.Entry{Valid: true, Size: size, Va: va, Pa: 8192}, va)
			check(api.Entry{Valid: true, Size: size, Va: va, Attr: api.Attr{Global: true}}, va)
		}
	}
}

// P3.4

func TestWordsAreReadAsTheEntry(t *testing.T) {
	for _, e := range entries() {
		for _, va := range inside(e) {
			if x, errno := Read(Tag(e), Data(e), va); x != e || errno != api.OK {
				t.Fatalf("%+v at %#x is read as %+v, %d", e, va, x, errno)
			}
		}
	}
}

func TestWordsAreReadAtEachAddress(t *testing.T) {
	for size, n := range bytes {
		e := api.Entry{Valid: true, Size: size, Ctx: 77, Va: holeTo + 3*n, Pa: 9 * n, Attr: api.Attr{Exec: true}}
		tag, data := Tag(e), Data(e)
		step := max(n/8192, 1)
		for off := uint64(0); off < n; off += step {
			if x, errno := Read(tag, data, e.Va+off); x != e || errno != api.OK {
				t.Fatalf("%+v at %#x is read as %+v, %d", e, e.Va+off, x, errno)
			}
		}
	}
}

// TestWordsAreNotReadElsewhere: outside an entry's page its words are never read as it.
func TestWordsAreNotReadElsewhere(t *testing.T) {
	for _, e := range entries() {
		for _, va := range outside(e) {
			if x, _ := Read(Tag(e), Data(e), va); x == e {
				t.Fatalf("%+v is read at %#x", e, va)
			}
		}
	}
}
