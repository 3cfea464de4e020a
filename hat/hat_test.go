package hat

import (
	"math"
	"math/rand"
	"slices"
	"testing"

	"lookaside/api"
)

const (
	top      = ^uint64(0)
	holeFrom = uint64(1) << 43            // the first address in the hole
	holeTo   = uint64(0xfffff80000000000) // the first one behind it
	paEnd    = uint64(1) << 41            // the first Pa that may not be
)

// bytes are the pages' bytes, written out.
var bytes = []uint64{8192, 65536, 524288, 4194304}

// wrongSpaces are no space's number, whatever the hat; some of them are one modulo a power of 2.
var wrongSpaces = []int{math.MinInt, math.MinInt + 1, math.MinInt + 63, -1 << 62, -1 << 32, -65, -64, -63, -2, -1, 64, 65, 127, 128, 255, 256, 1 << 32, 1<<32 + 1, 1 << 62, math.MaxInt - 63, math.MaxInt - 1, math.MaxInt}

// wrongSizes are no sizes; some of them are one modulo a power of 2.
var wrongSizes = []int{math.MinInt, math.MinInt + 1, math.MinInt + 3, -1 << 62, -1 << 32, -64, -8, -5, -4, -3, -2, -1, 4, 5, 6, 7, 8, 17, 64, 1 << 32, 1<<32 + 1, 1 << 62, math.MaxInt - 3, math.MaxInt - 1, math.MaxInt}

// belowOne are numbers below 1.
var belowOne = []int{0, -1, -2, -3, -64, -1 << 32, -1 << 62, math.MinInt + 1, math.MinInt}

// inHole are addresses in the hole, both ends among them.
var inHole = []uint64{holeFrom, holeFrom + 1, holeFrom + 8192, holeFrom + 1<<22, 1 << 44, 1<<62 + 5, 1<<63 - 1, 1 << 63, holeTo - 1<<22, holeTo - 8192, holeTo - 1}

// owned is a space's page.
type owned struct {
	space int
	p     api.Page
}

// plain is a hat as one list of all its pages, that which was put last first: what the tests hold the package against.
type plain struct {
	spaces, blocks, chains int
	list                   []owned
}

// chain is the number of the chain of a page at an address.
func (x *plain) chain(space int, va uint64, size int) int {
	return int((va/bytes[size] + 7*uint64(size) + 31*uint64(space)) % uint64(x.chains))
}

// rows are all pages by their chains.
func (x *plain) rows() map[int][]owned {
	by := map[int][]owned{}
	for _, o := range x.list {
		i := x.chain(o.space, o.p.Va, o.p.Size)
		by[i] = append(by[i], o)
	}
	return by
}

// ends are a page's first and last address.
func ends(p api.Page) (first, last uint64) { return p.Va, p.Va + (bytes[p.Size] - 1) }

// place is where in the list the page at an address stands; -1, if there is none.
func (x *plain) place(space int, va uint64) int {
	return slices.IndexFunc(x.list, func(o owned) bool {
		first, last := ends(o.p)
		return o.space == space && first <= va && va <= last
	})
}

// may is what May must tell.
func (x *plain) may(space int, p api.Page) api.Errno {
	if space < 0 || space >= x.spaces || p.Size < 0 || p.Size > 3 || p.Pa >= paEnd || p.Pa%bytes[p.Size] != 0 {
		return api.ErrArg
	}
	if p.Va >= holeFrom && p.Va < holeTo {
		return api.ErrHole
	}
	if p.Va%bytes[p.Size] != 0 {
		return api.ErrAlign
	}
	first, last := ends(p)
	for _, o := range x.list {
		if a, z := ends(o.p); o.space == space && a <= last && first <= z {
			return api.ErrExist
		}
	}
	if len(x.list) >= x.blocks {
		return api.ErrMem
	}
	return api.OK
}

// find is what Find must tell.
func (x *plain) find(space int, va uint64) (api.Page, int, bool) {
	if space < 0 || space >= x.spaces {
		return api.Page{}, 0, false
	}
	rows, looked := x.rows(), 0
	for size, n := range bytes {
		base := va - va%n
		for _, o := range rows[x.chain(space, base, size)] {
			looked++
			if o.space == space && o.p.Va == base && o.p.Size == size {
				return o.p, looked, true
			}
		}
	}
	return api.Page{}, looked, false
}

// errno is what a call of the page at an address must tell, and the page's place.
func (x *plain) errno(space int, va uint64) (int, api.Errno) {
	if space < 0 || space >= x.spaces {
		return -1, api.ErrArg
	}
	if i := x.place(space, va); i >= 0 {
		return i, api.OK
	}
	return -1, api.ErrNone
}

func (x *plain) put(space int, p api.Page) { x.list = append([]owned{{space, p}}, x.list...) }

func (x *plain) cut(i int) { x.list = slices.Delete(x.list, i, i+1) }

// pages are a space's pages, as their Va rise.
func (x *plain) pages(space int) []api.Page {
	var l []api.Page
	for _, o := range x.list {
		if o.space == space {
			i := 0
			for i < len(l) && l[i].Va < o.p.Va {
				i++
			}
			l = slices.Insert(l, i, o.p)
		}
	}
	return l
}

// resize puts all anew, one by one, the other way round.
func (x *plain) resize(chains int) {
	rows := x.rows()
	var numbers []int
	for i := range rows {
		numbers = append(numbers, i)
	}
	slices.Sort(numbers)
	var all []owned
	for _, i := range numbers {
		all = append(all, rows[i]...)
	}
	x.list, x.chains = all, chains
}

// both are a hat and its plain one.
func both(spaces, blocks, chains int) (*Hat, *plain) {
	return New(spaces, blocks, chains), &plain{spaces: min(max(spaces, 0), 64), blocks: max(blocks, 0), chains: max(chains, 1)}
}

// laid is a hat into which pages were mapped one behind the other.
func laid(t *testing.T, spaces, blocks, chains int, l ...owned) (*Hat, *plain) {
	t.Helper()
	h, x := both(spaces, blocks, chains)
	for _, o := range l {
		must(t, h.Map(o.space, o.p))
		x.put(o.space, o.p)
	}
	return h, x
}

// must asserts that all is OK.
func must(t *testing.T, errnos ...api.Errno) {
	t.Helper()
	for i, e := range errnos {
		if e != api.OK {
			t.Fatal(i, e)
		}
	}
}

// check asserts that a hat is as it must be, by all calls that tell of it.
func check(t *testing.T, h *Hat, x *plain, said ...any) {
	t.Helper()
	longest := 0
	for _, row := range x.rows() {
		longest = max(longest, len(row))
	}
	if h.Spaces() != x.spaces || h.Len() != len(x.list) || h.Free() != x.blocks-len(x.list) || h.Longest() != longest {
		t.Fatal(said, "Spaces", h.Spaces(), "Len", h.Len(), "Free", h.Free(), "Longest", h.Longest(), "want", x.spaces, len(x.list), x.blocks-len(x.list), longest)
	}
	asked := []int{math.MinInt, -1, 0, 1, x.spaces - 1, x.spaces, x.spaces + 1, 63, 64, math.MaxInt}
	for _, o := range x.list {
		asked = append(asked, o.space)
		first, last := ends(o.p)
		for _, va := range []uint64{first - 1, first, first + 1, first + bytes[o.p.Size]/2, last, last + 1} {
			checkFind(t, h, x, o.space, va, said...)
		}
	}
	slices.Sort(asked)
	for _, space := range slices.Compact(asked) {
		if l := h.Pages(space); !slices.Equal(l, x.pages(space)) {
			t.Fatal(said, "Pages", space, l, "want", x.pages(space))
		}
		for _, va := range []uint64{0, 8192, 1 << 22, holeFrom - 1, holeFrom, 1 << 63, holeTo - 1, holeTo, top} {
			checkFind(t, h, x, space, va, said...)
		}
	}
}

// checkFind asserts what Find tells.
func checkFind(t *testing.T, h *Hat, x *plain, space int, va uint64, said ...any) {
	t.Helper()
	p, n, is := h.Find(space, va)
	q, m, want := x.find(space, va)
	if p != q || n != m || is != want {
		t.Fatalf("%v: Find(%d, %#x) is %v %d %v, not %v %d %v", said, space, va, p, n, is, q, m, want)
	}
}

// refused asserts that a page may not be mapped, that both calls tell why, and that nothing is changed.
func refused(t *testing.T, h *Hat, x *plain, space int, p api.Page, want api.Errno) {
	t.Helper()
	if e := h.May(space, p); e != want {
		t.Errorf("May(%d, %v) is %v, not %v", space, p, e, want)
	}
	if e := h.Map(space, p); e != want {
		t.Errorf("Map(%d, %v) is %v, not %v", space, p, e, want)
	}
	check(t, h, x, space, p)
}

// mapped asserts that a page may be mapped, that to ask that changes nothing, and that then it is.
func mapped(t *testing.T, h *Hat, x *plain, space int, p api.Page) {
	t.Helper()
	if e := h.May(space, p); e != api.OK {
		t.Errorf("May(%d, %v) is %v", space, p, e)
	}
	check(t, h, x, space, p)
	if e := h.Map(space, p); e != api.OK {
		t.Errorf("Map(%d, %v) is %v", space, p, e)
	}
	x.put(space, p)
	check(t, h, x, space, p)
}

// many are so many pages that don't meet, of all sizes, in spaces below a number, on both sides of the hole.
func many(n, spaces int) []owned {
	var l []owned
	for i := range n {
		size := i * 3 % 4
		va := uint64(i)<<22 + uint64(i%5%int((1<<22)/bytes[size]))*bytes[size]
		if i%2 == 1 {
			va += holeTo
		}
		l = append(l, owned{i * 7 % spaces, api.Page{Va: va, Size: size, Pa: uint64(i) << 22, Attr: api.Attr{Write: i%2 == 0, Quiet: i%3 == 0}, Ref: i%4 == 0, Mod: i%5 == 0}})
	}
	return l
}

// four are pages of each size in the space 0, each the second one of its size.
func four() []owned {
	var l []owned
	for size, n := range bytes {
		l = append(l, owned{0, api.Page{Va: n, Size: size, Pa: 3 * n}})
	}
	l[0].p.Va = 0
	return l
}

// P12.1

func TestNew(t *testing.T) {
	for _, c := range []struct{ spaces, blocks, chains, want, free int }{
		{0, 4, 4, 0, 4}, {1, 4, 4, 1, 4}, {2, 0, 1, 2, 0}, {63, 1, 1, 63, 1}, {64, 1, 0, 64, 1}, {65, 1, 1, 64, 1}, {66, 7, -3, 64, 7},
		{-1, 3, 3, 0, 3}, {-64, 3, 3, 0, 3}, {1, -1, 1, 1, 0}, {1, -9, -9, 1, 0},
		{math.MaxInt, math.MaxInt, math.MaxInt, 64, math.MaxInt}, {math.MinInt, math.MinInt, math.MinInt, 0, 0}, {1 << 32, 1, 1, 64, 1}, {-1 << 32, 1, 1, 0, 1},
	} {
		h := New(c.spaces, c.blocks, c.chains)
		if h.Spaces() != c.want || h.Free() != c.free || h.Len() != 0 || h.Longest() != 0 {
			t.Error(c, h.Spaces(), h.Free(), h.Len(), h.Longest())
		}
		_, x := both(c.spaces, c.blocks, c.chains)
		check(t, h, x, c)
	}
}

// TestSpacesThatThereAre: the first and the last one of so many have pages, those beside them don't.
func TestSpacesThatThereAre(t *testing.T) {
	for _, c := range []struct{ spaces, have int }{{math.MinInt, 0}, {-1, 0}, {0, 0}, {1, 1}, {2, 2}, {31, 31}, {63, 63}, {64, 64}, {65, 64}, {1000, 64}, {math.MaxInt, 64}} {
		h, x := both(c.spaces, 200, 9)
		for space := range c.have {
			must(t, h.May(space, api.Page{}), h.Map(space, api.Page{Va: 8192}))
			x.put(space, api.Page{Va: 8192})
		}
		for _, space := range append([]int{c.have, c.have + 1, 63 + 64*(1-c.have/64)}, wrongSpaces...) {
			if space < 0 || space >= c.have {
				noSpace(t, h, space, 8192)
			}
		}
		check(t, h, x, c)
	}
}

// noSpace asserts what all calls tell of a space that there is not.
func noSpace(t *testing.T, h *Hat, space int, va uint64) {
	t.Helper()
	none := api.Page{}
	for _, p := range []api.Page{{}, {Va: va}, {Va: 1 << 50, Size: 1}, {Va: 5}, {Va: 1<<50 + 5, Size: 9, Pa: top}} {
		if h.May(space, p) != api.ErrArg || h.Map(space, p) != api.ErrArg {
			t.Error(space, p, h.May(space, p), h.Map(space, p))
		}
	}
	for _, va := range []uint64{va, 0, 1 << 50, top} {
		if p, n, is := h.Find(space, va); p != none || n != 0 || is {
			t.Error("Find", space, va, p, n, is)
		}
		if p, e := h.Unmap(space, va); p != none || e != api.ErrArg {
			t.Error("Unmap", space, va, p, e)
		}
		if p, e := h.Protect(space, va, api.Attr{Write: true}); p != none || e != api.ErrArg {
			t.Error("Protect", space, va, p, e)
		}
		if p, e := h.Clear(space, va); p != none || e != api.ErrArg {
			t.Error("Clear", space, va, p, e)
		}
		if h.Mark(space, va, false) != api.ErrArg || h.Mark(space, va, true) != api.ErrArg {
			t.Error("Mark", space, va)
		}
	}
	if l, e := h.Destroy(space); len(l) != 0 || e != api.ErrArg {
		t.Error("Destroy", space, l, e)
	}
	if l := h.Pages(space); len(l) != 0 {
		t.Error("Pages", space, l)
	}
}

// TestOfNoSpace: room and chains alone make no page.
func TestOfNoSpace(t *testing.T) {
	h, x := both(0, 10, 3)
	for _, space := range append([]int{0, 1, 2, 63}, wrongSpaces...) {
		noSpace(t, h, space, 8192)
	}
	must(t, h.Resize(5))
	x.resize(5)
	check(t, h, x)
}

func TestWrongSizes(t *testing.T) {
	h, x := laid(t, 64, 20, 3, four()...)
	for _, size := range wrongSizes {
		for _, p := range []api.Page{{Size: size}, {Size: size, Va: 8192, Pa: 8192}, {Size: size, Va: 1 << 50}, {Size: size, Va: 7}, {Size: size, Pa: paEnd}, {Size: size, Va: top, Pa: top}, {Size: size, Va: 1 << 30, Pa: 1 << 30}} {
			refused(t, h, x, 0, p, api.ErrArg)
			refused(t, h, x, 63, p, api.ErrArg)
		}
	}
}

// TestPa: the greatest one that may be and those beside it, and such as start no page, of each size.
func TestPa(t *testing.T) {
	for size, n := range bytes {
		for _, pa := range []uint64{0, n, 2 * n, 5 * n, 1 << 40, paEnd - n, paEnd - 2*n} {
			h, x := both(1, 1, 1)
			mapped(t, h, x, 0, api.Page{Size: size, Pa: pa})
			for _, beside := range []uint64{1, 2, 4096, n / 8, n / 2, n - 4096, n - 1} {
				h, x := both(1, 1, 1)
				refused(t, h, x, 0, api.Page{Size: size, Pa: pa + beside}, api.ErrArg)
			}
		}
		h, x := both(1, 1, 1)
		for _, pa := range []uint64{paEnd, paEnd + n, 1 << 42, 1<<42 + n, 3 << 41, 1 << 43, 1 << 44, 1 << 62, 1 << 63, holeTo, top - n + 1, top} {
			refused(t, h, x, 0, api.Page{Size: size, Pa: pa}, api.ErrArg)
		}
	}
}

// TestVa: first and last pages of each size at both sides of the hole, and such as start none.
func TestVa(t *testing.T) {
	for size, n := range bytes {
		for _, va := range []uint64{0, n, 7 * n, 1 << 42, holeFrom - 2*n, holeFrom - n, holeTo, holeTo + n, holeTo + 9*n, top - 2*n + 1, top - n + 1} {
			h, x := both(2, 2, 2)
			for _, beside := range []uint64{1, 2, 4096, n / 8, n / 2, n - 4096, n - 1} {
				refused(t, h, x, 0, api.Page{Size: size, Va: va + beside}, api.ErrAlign)
			}
			mapped(t, h, x, 1, api.Page{Size: size, Va: va})
			mapped(t, h, x, 0, api.Page{Size: size, Va: va})
		}
		h, x := both(2, 2, 2)
		for _, va := range inHole {
			refused(t, h, x, 1, api.Page{Size: size, Va: va}, api.ErrHole)
			refused(t, h, x, 1, api.Page{Size: size, Va: va - va%n}, api.ErrHole)
		}
	}
}

// TestMeet: two pages of all sizes, at one address, one around the other one, and beside one another, each of both mapped first.
func TestMeet(t *testing.T) {
	for _, at := range []uint64{0, 1 << 22, 5 << 22, holeFrom - 1<<22, holeTo, top - 1<<22 + 1} {
		for sizeA, a := range bytes {
			p := api.Page{Va: at, Size: sizeA}
			for sizeB, b := range bytes {
				met := []uint64{at - at%b, at + a - min(a, b)}
				if b < a {
					met = append(met, at+b, at+a/2, at+a-2*b)
				}
				for _, va := range met {
					meet(t, p, api.Page{Va: va - va%b, Size: sizeB, Pa: 1 << 30})
				}
				for _, va := range []uint64{at - b, at + max(a, b), at + 2*max(a, b)} {
					if va < holeFrom || va >= holeTo {
						apart(t, p, api.Page{Va: va, Size: sizeB, Pa: 1 << 30})
					}
				}
			}
		}
	}
}

// meet asserts of two pages that meet that a space has but one of them, and that others may have the other one.
func meet(t *testing.T, a, b api.Page) {
	t.Helper()
	for _, l := range [][2]api.Page{{a, b}, {b, a}} {
		for _, blocks := range []int{1, 3} {
			h, x := laid(t, 3, blocks, 2, owned{1, l[0]})
			refused(t, h, x, 1, l[1], api.ErrExist)
		}
		h, x := laid(t, 3, 3, 2, owned{1, l[0]})
		mapped(t, h, x, 0, l[1])
		mapped(t, h, x, 2, l[1])
		must(t, unmap(h, 1, l[0].Va))
		x.cut(2)
		mapped(t, h, x, 1, l[1])
	}
}

// apart asserts of two pages that don't meet that a space may have both.
func apart(t *testing.T, a, b api.Page) {
	t.Helper()
	for _, l := range [][2]api.Page{{a, b}, {b, a}} {
		h, x := laid(t, 1, 2, 2, owned{0, l[0]})
		mapped(t, h, x, 0, l[1])
	}
}

// unmap tells the error alone.
func unmap(h *Hat, space int, va uint64) api.Errno {
	_, e := h.Unmap(space, va)
	return e
}

// TestMeetEachWithin: a page meets each one of each less size that lies in it, and each less one that meets it.
func TestMeetEachWithin(t *testing.T) {
	const at = 3 << 22
	h := New(2, 1, 5)
	for size, n := range bytes {
		for less := range size {
			for from := uint64(0); from < n; from += bytes[less] {
				small, great := api.Page{Va: at + from, Size: less}, api.Page{Va: at, Size: size}
				must(t, h.Map(0, small))
				if e := h.May(0, great); e != api.ErrExist {
					t.Error(small, great, e)
				}
				must(t, unmap(h, 0, small.Va), h.Map(0, great))
				if e := h.May(0, small); e != api.ErrExist {
					t.Error(great, small, e)
				}
				must(t, unmap(h, 0, great.Va))
			}
		}
	}
}

// TestFirstError: where two or more hold, that which the promise names first is told.
func TestFirstError(t *testing.T) {
	const hole, odd = 1 << 50, 1<<17 + 8192
	for _, full := range []bool{false, true} {
		blocks := 9
		if full {
			blocks = 1
		}
		h, x := laid(t, 1, blocks, 2, owned{0, api.Page{Va: 1 << 17, Size: 1}})
		for _, va := range []uint64{0, hole, hole + 5, 5, odd, 1 << 17} {
			refused(t, h, x, 1, api.Page{Va: va, Size: 1}, api.ErrArg)
			refused(t, h, x, -1, api.Page{Va: va, Size: 1}, api.ErrArg)
			refused(t, h, x, 0, api.Page{Va: va, Size: 4}, api.ErrArg)
			refused(t, h, x, 0, api.Page{Va: va, Size: -1}, api.ErrArg)
			refused(t, h, x, 0, api.Page{Va: va, Size: 1, Pa: 8192}, api.ErrArg)
			refused(t, h, x, 0, api.Page{Va: va, Size: 1, Pa: paEnd}, api.ErrArg)
			refused(t, h, x, 7, api.Page{Va: va, Size: 7, Pa: paEnd + 7}, api.ErrArg)
		}
		refused(t, h, x, 0, api.Page{Va: hole, Size: 1}, api.ErrHole)
		refused(t, h, x, 0, api.Page{Va: hole + 5, Size: 1}, api.ErrHole)
		refused(t, h, x, 0, api.Page{Va: hole + 8192, Size: 1}, api.ErrHole)
		refused(t, h, x, 0, api.Page{Va: 5, Size: 1}, api.ErrAlign)
		refused(t, h, x, 0, api.Page{Va: odd, Size: 1}, api.ErrAlign) // its page is there already
		refused(t, h, x, 0, api.Page{Va: odd + 5}, api.ErrAlign)
		refused(t, h, x, 0, api.Page{Va: odd}, api.ErrExist)
		refused(t, h, x, 0, api.Page{Va: 1 << 17, Size: 1}, api.ErrExist)
		refused(t, h, x, 0, api.Page{Size: 3}, api.ErrExist)
		if full {
			refused(t, h, x, 0, api.Page{Size: 1}, api.ErrMem)
		} else {
			mapped(t, h, x, 0, api.Page{Size: 1})
		}
	}
}

// TestMapUpToTheLastBlock: one page more has no room, in whatever space, until one is no more; so again and again.
func TestMapUpToTheLastBlock(t *testing.T) {
	for _, blocks := range []int{1, 2, 7, 40} {
		for _, chains := range []int{1, 3, 100} {
			h, x := laid(t, 5, blocks, chains, many(blocks, 5)...)
			for i := range blocks {
				more := api.Page{Va: 1<<40 + uint64(i)*8192, Pa: 8192}
				for space := range 5 {
					refused(t, h, x, space, more, api.ErrMem)
				}
				o := x.list[(i*3)%blocks]
				must(t, unmap(h, o.space, o.p.Va))
				x.cut((i * 3) % blocks)
				mapped(t, h, x, i%5, more)
			}
		}
	}
}

func TestOfNoBlock(t *testing.T) {
	for _, blocks := range belowOne {
		h, x := both(3, blocks, 4)
		for _, o := range many(8, 3) {
			refused(t, h, x, o.space, o.p, api.ErrMem)
		}
		refused(t, h, x, 0, api.Page{Va: 1 << 50}, api.ErrHole)
	}
}

// TestMapKeepsAll: a page is told as it was handed in.
func TestMapKeepsAll(t *testing.T) {
	a := api.Attr{Write: true, Priv: true, Exec: true, Lock: true, Global: true, Quiet: true}
	for i, p := range []api.Page{
		{Va: 8192, Pa: 16384},
		{Va: 65536, Size: 1, Pa: paEnd - 65536, Attr: a, Ref: true, Mod: true},
		{Va: holeTo, Size: 3, Pa: 1 << 40, Attr: api.Attr{Global: true}, Mod: true},
		{Va: top - 524287, Size: 2, Attr: api.Attr{Quiet: true}, Ref: true},
	} {
		h := New(64, 1, 1)
		must(t, h.Map(i, p))
		if q, n, is := h.Find(i, p.Va+5000); q != p || n != p.Size+1 || !is {
			t.Error(q, n, is)
		}
		if l := h.Pages(i); len(l) != 1 || l[0] != p {
			t.Error(l)
		}
	}
}

// P12.2

// TestExample is the document's.
func TestExample(t *testing.T) {
	h, p := New(1, 1, 1), api.Page{Va: 8192}
	must(t, h.Map(0, p))
	if q, n, is := h.Find(0, 8200); q != p || n != 1 || !is {
		t.Error(q, n, is)
	}
	if q, e := h.Unmap(0, 16000); q != p || e != api.OK {
		t.Error(q, e)
	}
	if q, n, is := h.Find(0, 8200); q != (api.Page{}) || n != 0 || is {
		t.Error(q, n, is)
	}
}

// TestFindAtEdges: the first and last address of pages of each size, and those beside.
func TestFindAtEdges(t *testing.T) {
	for size, n := range bytes {
		for _, va := range []uint64{0, n, 9 * n, holeFrom - n, holeTo, holeTo + n, top - n + 1} {
			p := api.Page{Va: va, Size: size, Pa: n, Ref: true}
			h, _ := laid(t, 2, 3, 4, owned{1, p})
			for _, at := range []uint64{va, va + 1, va + n/8, va + n/2, va + n - 2, va + n - 1} {
				if q, _, is := h.Find(1, at); q != p || !is {
					t.Errorf("Find(%#x) is %v %v", at, q, is)
				}
				if q, _, is := h.Find(0, at); q != (api.Page{}) || is {
					t.Errorf("Find(%#x) of another space is %v %v", at, q, is)
				}
			}
			for _, at := range []uint64{va - 1, va - n, va + n, va + 2*n - 1, va ^ 1<<43, va ^ 1<<63} {
				if q, _, is := h.Find(1, at); q != (api.Page{}) || is {
					t.Errorf("Find(%#x) is %v %v", at, q, is)
				}
			}
		}
	}
}

// looked is how many blocks are looked at, at an address of a space.
type looked struct {
	space int
	va    uint64
	want  int
	is    bool
}

func (l looked) check(t *testing.T, h *Hat) {
	t.Helper()
	if p, n, is := h.Find(l.space, l.va); n != l.want || is != l.is || !is && p != (api.Page{}) {
		t.Error(l, p, n, is)
	}
}

// TestFindLooksInOneChain: each size that has not the page costs the whole chain.
func TestFindLooksInOneChain(t *testing.T) {
	h, x := laid(t, 3, 9, 1, four()...) // in the row of the sizes 3, 2, 1, 0
	for _, l := range []looked{
		{0, 0, 4, true}, {0, 8191, 4, true}, {0, 65536, 4 + 3, true}, {0, 131071, 4 + 3, true}, {0, 524288, 4 + 4 + 2, true}, {0, 4194304, 4 + 4 + 4 + 1, true}, {0, 8388607, 4 + 4 + 4 + 1, true},
		{0, 8192, 16, false}, {0, 131072, 16, false}, {0, 8388608, 16, false}, {0, holeFrom, 16, false}, {0, 1 << 63, 16, false}, {0, top, 16, false},
		{1, 0, 16, false}, {2, 65536, 16, false}, {3, 0, 0, false}, {-1, 0, 0, false}, {64, 65536, 0, false},
	} {
		l.check(t, h)
	}
	must(t, unmap(h, 0, 524288))
	for _, l := range []looked{{0, 0, 3, true}, {0, 65536, 3 + 2, true}, {0, 4194304, 3 + 3 + 3 + 1, true}, {0, 524288, 12, false}, {1, 0, 12, false}} {
		l.check(t, h)
	}
	x.cut(1)
	check(t, h, x)
}

// TestFindLooksInManyChains: those that have nothing cost nothing, those in which another page lies do.
func TestFindLooksInManyChains(t *testing.T) {
	h, x := laid(t, 3, 9, 1000, four()...) // in the chains 0, 1+7, 1+14 and 1+21
	for _, l := range []looked{
		{0, 0, 1, true}, {0, 65536, 1 + 1, true}, {0, 65536 + 8192, 1, true}, {0, 524288, 1 + 1, true}, {0, 524288 + 65536, 1, true}, {0, 4194304, 1 + 1, true}, {0, 4194304 + 524288, 1, true},
		{0, 8192, 0, false}, {0, 22 * 8192, 1, false}, {0, 8388608, 0, false}, {1, 0, 0, false}, {1, 8192, 0, false}, {2, 65536, 0, false},
	} {
		l.check(t, h)
	}
	check(t, h, x)
	must(t, h.Resize(7)) // in the chains 0, 1, 1 and 1; each page's size counts as 0
	x.resize(7)
	for _, l := range []looked{{0, 0, 1, true}, {0, 9 * 8192, 0 + 1, true}, {0, 8 * 8192, 3 + 1, true}, {0, 64 * 8192, 3 + 3 + 2, true}, {0, 512 * 8192, 3 + 3 + 3 + 3, true}} {
		l.check(t, h)
	}
	check(t, h, x)
}

// TestFindLooksAtOthers: pages of other spaces lie in one chain with the space's.
func TestFindLooksAtOthers(t *testing.T) {
	h, x := both(3, 9, 31)
	for _, space := range []int{0, 1, 2} {
		mapped(t, h, x, space, api.Page{Va: 8192})
	}
	for _, l := range []looked{{2, 8192, 1, true}, {1, 8192, 2, true}, {0, 8192, 3, true}, {0, 0, 0, false}, {0, 32 * 8192, 3, false}} {
		l.check(t, h)
	}
}

// P12.3

// TestAmidAPage: each call finds the page by each of its addresses, and tells it as it was ahead.
func TestAmidAPage(t *testing.T) {
	a := api.Attr{Exec: true, Priv: true}
	for size, n := range bytes {
		for _, va := range []uint64{0, 2 * n, holeFrom - n, holeTo, top - n + 1} {
			for _, at := range []uint64{0, 1, n / 8, n / 2, n - 1} {
				p := api.Page{Va: va, Size: size, Pa: 2 * n, Attr: api.Attr{Write: true}}
				h, x := laid(t, 3, 3, 2, owned{0, p}, owned{1, p}, owned{2, p})
				tell := func(q api.Page, e api.Errno) {
					t.Helper()
					if q != p || e != api.OK {
						t.Error(q, e, "want", p)
					}
				}
				tell(h.Protect(1, va+at, a))
				p.Attr = a
				x.list[1].p = p
				check(t, h, x)
				must(t, h.Mark(1, va+at, true))
				p.Ref, p.Mod = true, true
				x.list[1].p = p
				check(t, h, x)
				tell(h.Clear(1, va+at))
				p.Ref, p.Mod = false, false
				x.list[1].p = p
				check(t, h, x)
				tell(h.Unmap(1, va+at))
				x.cut(1)
				check(t, h, x)
			}
		}
	}
}

// TestWhereNoPageIs: beside pages, in the hole, and behind Unmap, all calls tell so, and change nothing.
func TestWhereNoPageIs(t *testing.T) {
	h, x := laid(t, 4, 50, 7, many(40, 3)...)
	asked := append([]uint64{8192, holeFrom - 1, 1 << 42}, inHole...)
	for _, o := range x.list {
		first, last := ends(o.p)
		asked = append(asked, first-1, last+1, first^1<<43, last^1<<63)
	}
	for _, va := range asked {
		for space := range 4 {
			if _, e := x.errno(space, va); e == api.ErrNone {
				noPage(t, h, space, va)
			}
		}
	}
	check(t, h, x)
	o := x.list[20]
	must(t, unmap(h, o.space, o.p.Va))
	x.cut(20)
	noPage(t, h, o.space, o.p.Va)
	check(t, h, x)
}

// noPage asserts what all calls tell of an address at which a space has no page.
func noPage(t *testing.T, h *Hat, space int, va uint64) {
	t.Helper()
	none := api.Page{}
	if p, e := h.Unmap(space, va); p != none || e != api.ErrNone {
		t.Error("Unmap", space, va, p, e)
	}
	if p, e := h.Protect(space, va, api.Attr{Write: true}); p != none || e != api.ErrNone {
		t.Error("Protect", space, va, p, e)
	}
	if p, e := h.Clear(space, va); p != none || e != api.ErrNone {
		t.Error("Clear", space, va, p, e)
	}
	if h.Mark(space, va, false) != api.ErrNone || h.Mark(space, va, true) != api.ErrNone {
		t.Error("Mark", space, va)
	}
}

// TestOfNoSpaceChangesNothing: of a space that there is not nothing is done to any other one.
func TestOfNoSpaceChangesNothing(t *testing.T) {
	for _, spaces := range []int{1, 3, 64} {
		h, x := laid(t, spaces, 50, 3, many(40, spaces)...)
		for _, space := range append([]int{spaces, spaces + 1}, wrongSpaces...) {
			if space < 0 || space >= spaces {
				noSpace(t, h, space, x.list[0].p.Va)
			}
		}
		check(t, h, x)
	}
}

// TestMark: Ref always, Mod where it is asked for, and kept where it is not; twice, and behind Clear.
func TestMark(t *testing.T) {
	h, p := New(1, 2, 1), api.Page{Va: 65536, Size: 1, Pa: 65536, Attr: api.Attr{Quiet: true}}
	must(t, h.Map(0, p))
	is := func(ref, mod bool) {
		t.Helper()
		p.Ref, p.Mod = ref, mod
		if q, _, _ := h.Find(0, 70000); q != p {
			t.Error(q, "want", p)
		}
	}
	must(t, h.Mark(0, 65536, false))
	is(true, false)
	must(t, h.Mark(0, 65536, false))
	is(true, false)
	must(t, h.Mark(0, 131071, true))
	is(true, true)
	must(t, h.Mark(0, 65536, false))
	is(true, true)
	must(t, h.Mark(0, 65536, true))
	is(true, true)
	if q, e := h.Clear(0, 100000); q != p || e != api.OK {
		t.Error(q, e)
	}
	is(false, false)
	if q, e := h.Clear(0, 65536); q != p || e != api.OK {
		t.Error(q, e)
	}
	is(false, false)
	must(t, h.Mark(0, 65536, true))
	is(true, true)
	must(t, unmap(h, 0, 65536), h.Map(0, api.Page{Va: 65536, Size: 1, Pa: 65536, Attr: p.Attr}))
	is(false, false)
}

// TestMarkOfHalf: pages that were mapped with one of both alone.
func TestMarkOfHalf(t *testing.T) {
	for _, c := range []struct{ ref, mod, asked, want bool }{{false, true, false, true}, {false, true, true, true}, {true, false, false, false}, {true, false, true, true}, {false, false, true, true}, {false, false, false, false}, {true, true, false, true}} {
		h := New(1, 1, 1)
		must(t, h.Map(0, api.Page{Ref: c.ref, Mod: c.mod}), h.Mark(0, 0, c.asked))
		want := api.Page{Ref: true, Mod: c.want}
		if q, _, _ := h.Find(0, 0); q != want {
			t.Error(c, q)
		}
		if q, e := h.Clear(0, 0); q != want || e != api.OK {
			t.Error(c, q, e)
		}
		if q, _, _ := h.Find(0, 0); q != (api.Page{}) {
			t.Error(c, q)
		}
	}
}

// TestProtect: each attribute to each, also those that are there already; nothing else of the page is changed.
func TestProtect(t *testing.T) {
	attrs := []api.Attr{{}, {Write: true}, {Priv: true}, {Exec: true}, {Lock: true}, {Global: true}, {Quiet: true}, {Write: true, Priv: true, Exec: true, Lock: true, Global: true, Quiet: true}}
	for _, from := range attrs {
		for _, to := range attrs {
			p := api.Page{Va: 1 << 22, Size: 2, Pa: 1 << 40, Attr: from, Ref: true, Mod: from.Write}
			h, x := laid(t, 1, 2, 3, owned{0, p})
			if q, e := h.Protect(0, 1<<22+77, to); q != p || e != api.OK {
				t.Error(q, e)
			}
			x.list[0].p.Attr = to
			check(t, h, x)
		}
	}
}

// TestChangedAtItsPlace: what changes a page leaves it where it is in its chain.
func TestChangedAtItsPlace(t *testing.T) {
	h, x := laid(t, 1, 4, 1, four()...)
	for range 2 {
		for i, o := range x.list {
			if _, e := h.Protect(0, o.p.Va, api.Attr{Write: true}); e != api.OK {
				t.Error(e)
			}
			must(t, h.Mark(0, o.p.Va, true))
			x.list[i].p.Attr, x.list[i].p.Ref, x.list[i].p.Mod = api.Attr{Write: true}, true, true
			check(t, h, x)
			h.Clear(0, o.p.Va)
			x.list[i].p.Ref, x.list[i].p.Mod = false, false
			check(t, h, x)
		}
	}
}

// TestUnmapOne: a page alone is no more, those beside it and within reach of a greater one stay.
func TestUnmapOne(t *testing.T) {
	h, x := both(1, 70, 5)
	for i := range 64 {
		mapped(t, h, x, 0, api.Page{Va: uint64(i) * 8192, Pa: uint64(i) * 8192})
	}
	for len(x.list) > 0 {
		i := len(x.list) * 5 / 8
		refused(t, h, x, 0, api.Page{Size: 2}, api.ErrExist)
		p := x.list[i].p
		if q, e := h.Unmap(0, p.Va+8191); q != p || e != api.OK {
			t.Error(q, e)
		}
		x.cut(i)
		check(t, h, x)
	}
	mapped(t, h, x, 0, api.Page{Size: 2})
}

// TestDestroy: spaces with no page, one and many; they are told as their Va rise, and others' pages stay.
func TestDestroy(t *testing.T) {
	for _, n := range []int{0, 1, 2, 50} {
		for _, chains := range []int{1, 6, 1000} {
			h, x := laid(t, 4, 60, chains, many(n, 3)...)
			for _, space := range []int{3, 1, 0, 1, 2, 2} {
				want := x.pages(space)
				if l, e := h.Destroy(space); !slices.Equal(l, want) || e != api.OK {
					t.Error(n, chains, space, l, e, "want", want)
				}
				x.list = slices.DeleteFunc(x.list, func(o owned) bool { return o.space == space })
				check(t, h, x, n, chains, space)
			}
			for _, o := range many(n, 3) {
				must(t, h.Map(o.space, o.p))
				x.put(o.space, o.p)
			}
			check(t, h, x, n, chains)
		}
	}
}

// P12.4

// TestPagesRise: those below 2^63 first, however they were mapped.
func TestPagesRise(t *testing.T) {
	want := []api.Page{{Va: 0}, {Va: 8192}, {Va: 65536, Size: 1}, {Va: holeFrom - 8192}, {Va: holeTo, Size: 3}, {Va: holeTo + 1<<22}, {Va: top - 65535}, {Va: top - 8191}}
	for _, chains := range []int{1, 2, 7, 100, math.MaxInt} {
		for turn := range want {
			h := New(2, 20, chains)
			for i := range want {
				must(t, h.Map(1, want[(i*3+turn)%len(want)]), h.Map(0, want[i]))
			}
			if l := h.Pages(1); !slices.Equal(l, want) {
				t.Error(chains, turn, l)
			}
			if l, e := h.Destroy(1); !slices.Equal(l, want) || e != api.OK {
				t.Error(chains, turn, l, e)
			}
			if l := h.Pages(0); !slices.Equal(l, want) {
				t.Error(chains, turn, l)
			}
		}
	}
}

// TestPagesAreNew: what is done to a list, and to its spare room, is not done to the hat, nor to another list.
func TestPagesAreNew(t *testing.T) {
	h, x := laid(t, 3, 50, 5, many(40, 3)...)
	one, two := h.Pages(0), h.Pages(0)
	want := slices.Clone(one)
	clear(one)
	_ = append(one[:1], api.Page{Va: 1}, api.Page{Va: 2})
	if !slices.Equal(two, want) || len(want) < 5 {
		t.Error(two)
	}
	check(t, h, x)
	l, e := h.Destroy(0)
	must(t, e, h.Map(0, api.Page{Va: 1 << 42}))
	if !slices.Equal(l, want) || !slices.Equal(two, want) {
		t.Error(l, two)
	}
	clear(l)
	x.list = slices.DeleteFunc(x.list, func(o owned) bool { return o.space == 0 })
	x.put(0, api.Page{Va: 1 << 42})
	check(t, h, x)
}

// TestCounts are Len, Free and Longest, written out.
func TestCounts(t *testing.T) {
	h := New(2, 3, 2)
	is := func(pages, free, longest int) {
		t.Helper()
		if h.Len() != pages || h.Free() != free || h.Longest() != longest {
			t.Error(h.Len(), h.Free(), h.Longest(), "want", pages, free, longest)
		}
	}
	is(0, 3, 0)
	must(t, h.Map(0, api.Page{})) // in the chain 0
	is(1, 2, 1)
	must(t, h.Map(1, api.Page{})) // in the chain 31 modulo 2
	is(2, 1, 1)
	must(t, h.Map(0, api.Page{Va: 16384})) // in the chain 0
	is(3, 0, 2)
	must(t, h.Resize(1))
	is(3, 0, 3)
	must(t, h.Resize(100))
	is(3, 0, 1)
	must(t, h.Mark(0, 0, true), unmap(h, 0, 0))
	is(2, 1, 1)
	h.Destroy(1)
	is(1, 2, 1)
	h.Destroy(0)
	is(0, 3, 0)
}

// TestResize: to one chain and to many, and that it changes no page; refused, it changes nothing.
func TestResize(t *testing.T) {
	counts := []int{1, 2, 7, 40, 1000, math.MaxInt}
	for _, from := range append(slices.Clone(counts), belowOne...) {
		h, x := laid(t, 5, 50, from, many(45, 5)...)
		for _, to := range counts {
			for _, wrong := range belowOne {
				if e := h.Resize(wrong); e != api.ErrArg {
					t.Error(from, wrong, e)
				}
			}
			check(t, h, x, from)
			must(t, h.Resize(to))
			x.resize(to)
			check(t, h, x, from, to)
		}
		mapped(t, h, x, 4, api.Page{Va: 1 << 42, Size: 3})
	}
}

// P12.5

// step does one thing of all to both.
func step(t *testing.T, r *rand.Rand, h *Hat, x *plain) {
	t.Helper()
	space, size := r.Intn(x.spaces+2)-1, r.Intn(4)
	va := uint64(r.Intn(3*8))*bytes[r.Intn(size+1)] + uint64(r.Intn(3)/2*r.Intn(9000))
	if r.Intn(2) == 0 {
		va += holeTo
	}
	i, want := x.errno(space, va)
	old := api.Page{}
	if want == api.OK {
		old = x.list[i].p
	}
	tell := func(p api.Page, e api.Errno) {
		t.Helper()
		if p != old || e != want {
			t.Fatal(space, va, p, e, "want", old, want)
		}
	}
	a, mod := api.Attr{Write: r.Intn(2) == 0, Exec: r.Intn(2) == 0}, r.Intn(2) == 0
	switch r.Intn(12) {
	case 0, 1, 2, 3, 4, 5:
		p := api.Page{Va: va, Size: size, Pa: uint64(r.Intn(40)) * bytes[max(size-r.Intn(2), 0)], Attr: a, Mod: mod}
		e := x.may(space, p)
		if m := h.May(space, p); m != e {
			t.Fatal("May", space, p, m, "want", e)
		}
		if m := h.Map(space, p); m != e {
			t.Fatal("Map", space, p, m, "want", e)
		}
		if e == api.OK {
			x.put(space, p)
		}
	case 6, 7:
		tell(h.Unmap(space, va))
		if i >= 0 {
			x.cut(i)
		}
	case 8:
		tell(h.Protect(space, va, a))
		if i >= 0 {
			x.list[i].p.Attr = a
		}
	case 9:
		if e := h.Mark(space, va, mod); e != want {
			t.Fatal("Mark", space, va, e, "want", want)
		}
		if i >= 0 {
			x.list[i].p.Ref, x.list[i].p.Mod = true, old.Mod || mod
		}
	case 10:
		tell(h.Clear(space, va))
		if i >= 0 {
			x.list[i].p.Ref, x.list[i].p.Mod = false, false
		}
	case 11:
		all(t, r, h, x, space)
	}
}

// all does one thing to all pages, or to all of a space, seldom to these.
func all(t *testing.T, r *rand.Rand, h *Hat, x *plain, space int) {
	t.Helper()
	if n := r.Intn(15) - 1; r.Intn(4) > 0 {
		if e := h.Resize(n); (e == api.OK) != (n >= 1) || n < 1 && e != api.ErrArg {
			t.Fatal("Resize", n, e)
		}
		if n >= 1 {
			x.resize(n)
		}
		return
	}
	want := api.OK
	if space < 0 || space >= x.spaces {
		want = api.ErrArg
	}
	pages := x.pages(space)
	if l, e := h.Destroy(space); !slices.Equal(l, pages) || e != want {
		t.Fatal("Destroy", space, l, e, "want", pages, want)
	}
	x.list = slices.DeleteFunc(x.list, func(o owned) bool { return o.space == space })
}

// TestRowsOfAllCalls are held against lists: what is done in one space is done in no other one.
func TestRowsOfAllCalls(t *testing.T) {
	for seed := range 12 {
		r := rand.New(rand.NewSource(int64(seed)))
		h, x := both(1+seed%5, 4+9*seed, 1+seed*seed)
		for i := range 1500 {
			step(t, r, h, x)
			if i%5 == 0 {
				check(t, h, x, seed, i)
			}
		}
	}
}

// TestOthersStay: the same pages in all spaces; what is done with one space's is done with its alone.
func TestOthersStay(t *testing.T) {
	h, x := both(64, 64*4, 31)
	for space := range 64 {
		for _, o := range four() {
			must(t, h.Map(space, o.p))
			x.put(space, o.p)
		}
	}
	for space := range 64 {
		before := h.Pages((space + 1) % 64)
		if _, e := h.Protect(space, 65536, api.Attr{Exec: true}); e != api.OK {
			t.Error(e)
		}
		must(t, h.Mark(space, 4194304, true), unmap(h, space, 524288), h.Resize(space+1))
		if l := h.Pages((space + 1) % 64); space < 63 && !slices.Equal(l, before) {
			t.Error(space, l)
		}
		want := []api.Page{{Pa: 3 * 8192}, {Va: 65536, Size: 1, Pa: 3 * 65536, Attr: api.Attr{Exec: true}}, {Va: 4194304, Size: 3, Pa: 3 * 4194304, Ref: true, Mod: true}}
		if l := h.Pages(space); !slices.Equal(l, want) {
			t.Error(space, l)
		}
	}
	if l, e := h.Destroy(31); len(l) != 3 || e != api.OK || h.Len() != 63*3 {
		t.Error(l, e, h.Len())
	}
	for space := range 64 {
		if n := len(h.Pages(space)); (n == 3) != (space != 31) {
			t.Error(space, n)
		}
	}
}

// TestTwoHats: what is done to one is not done to the other one.
func TestTwoHats(t *testing.T) {
	h, x := laid(t, 3, 20, 2, many(9, 3)...)
	g, y := laid(t, 3, 20, 2, many(7, 3)...)
	o := many(1, 3)[0]
	must(t, unmap(h, o.space, o.p.Va), g.Resize(5), g.Map(2, api.Page{Va: 1 << 42}))
	x.cut(len(x.list) - 1)
	y.resize(5)
	y.put(2, api.Page{Va: 1 << 42})
	check(t, h, x)
	check(t, g, y)
}

// TestEachTimeAlike: what is told hangs on what was done alone.
func TestEachTimeAlike(t *testing.T) {
	for range 30 {
		h, x := laid(t, 3, 70, 1000, many(60, 3)...)
		must(t, h.Resize(37), h.Resize(11))
		x.resize(37)
		x.resize(11)
		check(t, h, x)
	}
}
