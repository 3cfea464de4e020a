package frames

import (
	"math"
	"math/rand"
	"slices"
	"testing"

	"lookaside/api"
)

const most = 65536 // the greatest number of frames

// runLengths are how many frames the runs of the sizes 0 to 3 have, written out.
var runLengths = []int{1, 8, 64, 512}

// wrongSizes are no sizes.
var wrongSizes = []int{math.MinInt, math.MinInt + 1, -1 << 62, -64, -4, -3, -2, -1, 4, 5, 6, 7, 8, 16, 64, 512, 1 << 32, 1 << 61, 1 << 62, math.MaxInt - 1, math.MaxInt}

// wrongNumbers are below 1.
var wrongNumbers = []int{0, -1, -2, -7, -8, -512, -most, -1 << 32, -1 << 62, math.MinInt + 1, math.MinInt}

// hugeNumbers are more frames than there ever are; with some of them a sum wraps round.
var hugeNumbers = []int{most + 1, 1 << 20, 1 << 32, 1 << 62, 1<<62 + 1, math.MaxInt - most, math.MaxInt - 1, math.MaxInt}

// noFrames are numbers that no frame ever has.
var noFrames = append([]int{-1, -2, -8, -512, -most, -1 << 62, math.MinInt + 1, math.MinInt, most}, hugeNumbers...)

// counts are numbers of frames: around each run's, and such as are no multiple of one.
var counts = []int{0, 1, 2, 7, 8, 9, 15, 16, 17, 20, 63, 64, 65, 71, 72, 100, 127, 128, 129, 511, 512, 513, 519, 520, 575, 576, 1000, 1023, 1024, 1025, 1535, 1536, 1600}

// plain is frames as a list that tells of each whether it is taken: what the tests hold the package against.
type plain []bool

// are tells whether the n frames from first on (n is some few more than there are, at most) all are there, and taken or free.
func (p plain) are(first, n int, taken bool) bool {
	for i := first; i < first+n; i++ {
		if i < 0 || i >= len(p) || p[i] != taken {
			return false
		}
	}
	return true
}

func (p plain) set(first, n int, taken bool) {
	for i := first; i < first+n; i++ {
		p[i] = taken
	}
}

// first takes the n first frames that are free, out of those that begin at a multiple of step.
func (p plain) first(n, step int) (int, api.Errno) {
	for first := 0; n <= len(p) && first < len(p); first++ {
		if first%step == 0 && p.are(first, n, false) {
			p.set(first, n, true)
			return first, api.OK
		}
	}
	return 0, api.ErrMem
}

func (p plain) take(size int) (int, api.Errno) {
	if size < 0 || size > 3 {
		return 0, api.ErrArg
	}
	return p.first(runLengths[size], runLengths[size])
}

func (p plain) takeMany(n int) (int, api.Errno) {
	if n < 1 {
		return 0, api.ErrArg
	}
	return p.first(n, 1)
}

// give is of a first frame and a number that are not so far off that their sum wraps round.
func (p plain) give(first, n int) api.Errno {
	switch {
	case n < 1:
		return api.ErrArg
	case first < 0 || first+n-1 >= len(p):
		return api.ErrRange
	case !p.are(first, n, true):
		return api.ErrState
	}
	p.set(first, n, false)
	return api.OK
}

func (p plain) list() []int {
	var list []int
	for i, taken := range p {
		if taken {
			list = append(list, i)
		}
	}
	return list
}

func (p plain) longest() int {
	longest, length := 0, 0
	for _, taken := range p {
		length++
		if taken {
			length = 0
		}
		longest = max(longest, length)
	}
	return longest
}

// check asserts that frames are as they must be, by all calls that tell of them.
func check(t *testing.T, f *Frames, p plain, said ...any) {
	t.Helper()
	list := p.list()
	if f.Len() != len(p) || f.Free() != len(p)-len(list) || f.Longest() != p.longest() {
		t.Fatal(said, "Len", f.Len(), "Free", f.Free(), "Longest", f.Longest(), "want", len(p), len(p)-len(list), p.longest())
	}
	if got := f.List(); !slices.Equal(got, list) {
		t.Fatal(said, "List", got, "want", list)
	}
	for i := range p {
		if f.Is(i) != p[i] {
			t.Fatal(said, "Is", i, "is", f.Is(i))
		}
	}
	for _, i := range append([]int{len(p), len(p) + 1, len(p) + 63, len(p) + 512}, noFrames...) {
		if f.Is(i) {
			t.Fatal(said, "Is", i, "of", len(p), "is true")
		}
	}
}

// laid is frames of which just those are taken that p tells.
func laid(t *testing.T, p plain) *Frames {
	t.Helper()
	f := New(len(p))
	if len(p) > 0 {
		must(t, takeMany(f, f.Len()))
	}
	for i, taken := range p {
		if !taken {
			must(t, f.Give(i, 1))
		}
	}
	return f
}

// takeMany takes frames whose first one is of no interest.
func takeMany(f *Frames, n int) api.Errno {
	_, e := f.TakeMany(n)
	return e
}

// layout is n frames that are taken as the bits of a number tell.
func layout(n, bits int) plain {
	p := make(plain, n)
	for i := range p {
		p[i] = bits>>i&1 == 1
	}
	return p
}

// must asserts that calls were told OK.
func must(t *testing.T, errnos ...api.Errno) {
	t.Helper()
	for _, e := range errnos {
		if e != api.OK {
			t.Fatal("told", e)
		}
	}
}

// told asserts what Take or TakeMany answered.
func told(t *testing.T, first int, e api.Errno, wantFirst int, want api.Errno, said ...any) {
	t.Helper()
	if first != wantFirst || e != want {
		t.Fatal(said, "told", first, e, "want", wantFirst, want)
	}
}

// P5.1

func TestNew(t *testing.T) {
	for _, c := range []struct{ n, want int }{
		{0, 0}, {1, 1}, {7, 7}, {8, 8}, {511, 511}, {512, 512}, {513, 513}, {most - 1, most - 1}, {most, most},
		{most + 1, most}, {1 << 20, most}, {1 << 32, most}, {1 << 62, most}, {math.MaxInt - 1, most}, {math.MaxInt, most},
		{-1, 0}, {-3, 0}, {-most, 0}, {-1 << 32, 0}, {-1 << 62, 0}, {math.MinInt + 1, 0}, {math.MinInt, 0},
	} {
		f := New(c.n)
		if f.Len() != c.want || f.Free() != c.want || f.Longest() != c.want || len(f.List()) != 0 {
			t.Error(c.n, "Len", f.Len(), "Free", f.Free(), "Longest", f.Longest(), "List", len(f.List()))
		}
		check(t, f, make(plain, c.want), "New", c.n)
	}
}

func TestRun(t *testing.T) {
	for size, want := range runLengths {
		if n := Run(size); n != want {
			t.Errorf("Run(%d) is %d", size, n)
		}
	}
	for _, size := range wrongSizes {
		if n := Run(size); n != 0 {
			t.Errorf("Run(%d) is %d", size, n)
		}
	}
}

// TestAllTaken asks of frames none of which is free, of each number.
func TestAllTaken(t *testing.T) {
	for _, n := range append([]int{most}, counts[1:]...) {
		f, p := New(n), make(plain, n)
		must(t, takeMany(f, f.Len()))
		p.set(0, n, true)
		check(t, f, p, "all of", n)
		if f.Free() != 0 || f.Longest() != 0 || len(f.List()) != n {
			t.Error(n, "Free", f.Free(), "Longest", f.Longest(), "List", len(f.List()))
		}
	}
}

func TestLongestExamples(t *testing.T) {
	for _, c := range []struct {
		frames string // what is taken is an x
		want   int
	}{
		{"", 0}, {".", 1}, {"x", 0}, {"..", 2}, {"xx", 0}, {".x", 1}, {"x.", 1},
		{"...x", 3}, {"x...", 3}, {"x...x", 3}, {"..x...", 3}, {"...x..", 3}, {"..x..", 2},
		{".x.x.", 1}, {".x..x.", 2}, {"x.x...x.x", 3}, {"....x..x...", 4}, {"...x..x....", 4}, {"......x.........x...", 9},
	} {
		p := make(plain, len(c.frames))
		for i := range p {
			p[i] = c.frames[i] == 'x'
		}
		if n := laid(t, p).Longest(); n != c.want {
			t.Errorf("Longest of %q is %d", c.frames, n)
		}
	}
}

// TestEachLayout asks what is told of all layouts of few frames.
func TestEachLayout(t *testing.T) {
	for n := range 11 {
		for bits := range 1 << n {
			p := layout(n, bits)
			check(t, laid(t, p), p, "layout", n, bits)
		}
	}
}

// TestListIsNew changes what List told, and takes and gives behind it.
func TestListIsNew(t *testing.T) {
	f := New(20)
	for range 5 {
		f.Take(0)
	}
	one, two := f.List(), f.List()
	for i := range one {
		one[i] = 19
	}
	_ = append(one[:2], 7, 7, 7)
	want := []int{0, 1, 2, 3, 4}
	if !slices.Equal(two, want) || !slices.Equal(f.List(), want) {
		t.Fatal(two, f.List())
	}
	must(t, f.Give(0, 5))
	if !slices.Equal(two, want) || len(f.List()) != 0 {
		t.Fatal(two, f.List())
	}
}

// TestApart takes of one, and asks of another one.
func TestApart(t *testing.T) {
	f, g := New(64), New(64)
	must(t, takeMany(f, f.Len()))
	check(t, g, make(plain, 64), "the other one")
	if e := g.Give(0, 1); e != api.ErrState {
		t.Error(e)
	}
}

// P5.2

func TestTakeExample(t *testing.T) {
	f := New(20)
	for _, c := range []struct{ size, want int }{{0, 0}, {1, 8}, {0, 1}} {
		first, e := f.Take(c.size)
		told(t, first, e, c.want, api.OK, "Take", c.size)
	}
	// Of the third run of 8 only four frames are there.
	first, e := f.Take(1)
	told(t, first, e, 0, api.ErrMem, "the third run")
	if want := []int{0, 1, 8, 9, 10, 11, 12, 13, 14, 15}; !slices.Equal(f.List(), want) || f.Free() != 10 || f.Longest() != 6 {
		t.Error(f.List(), f.Free(), f.Longest())
	}
}

// TestTakeAllRuns takes run by run to the end, which is the last one all of whose frames are there.
func TestTakeAllRuns(t *testing.T) {
	for _, n := range counts {
		for size, length := range runLengths {
			f, p := New(n), make(plain, n)
			for i := range n / length {
				first, e := f.Take(size)
				told(t, first, e, i*length, api.OK, "run", i, "of", n, "size", size)
				p.set(first, length, true)
				if f.Free() != n-(i+1)*length {
					t.Fatal("Free", f.Free(), "behind run", i, "of", n, "size", size)
				}
			}
			first, e := f.Take(size)
			told(t, first, e, 0, api.ErrMem, "behind all of", n, "size", size)
			check(t, f, p, "behind all of", n, "size", size)
		}
	}
}

func TestTakeOfMost(t *testing.T) {
	for size, length := range runLengths {
		if size == 0 {
			continue
		}
		f := New(most)
		for i := range most / length {
			first, e := f.Take(size)
			told(t, first, e, i*length, api.OK, "run", i, "size", size)
		}
		if f.Free() != 0 || f.Longest() != 0 || !f.Is(most-1) || f.Is(most) {
			t.Fatal("size", size, "Free", f.Free(), "Longest", f.Longest())
		}
		for other := range runLengths {
			first, e := f.Take(other)
			told(t, first, e, 0, api.ErrMem, "behind all, size", other)
		}
		must(t, f.Give(most-length, length))
		first, e := f.Take(size)
		told(t, first, e, most-length, api.OK, "the last run again, size", size)
	}
}

// TestTakeLacksOne takes a run, where of the first one a frame is taken, each in its turn, and of the last one a frame is not there.
func TestTakeLacksOne(t *testing.T) {
	for size, length := range runLengths {
		for at := range length {
			p := make(plain, 3*length-1)
			p[at] = true
			f := laid(t, p)
			first, e := f.Take(size)
			told(t, first, e, length, api.OK, "size", size, "taken", at)
			p.set(length, length, true)
			check(t, f, p, "size", size, "taken", at)
			first, e = f.Take(size)
			told(t, first, e, 0, api.ErrMem, "size", size, "taken", at, "again")
			check(t, f, p, "size", size, "taken", at, "again")
		}
	}
}

// TestTakeStandsAtMultiples has enough free frames one behind the other, but none of its runs is free.
func TestTakeStandsAtMultiples(t *testing.T) {
	for size, length := range runLengths {
		if length == 1 {
			continue
		}
		p := make(plain, 2*length)
		p[0], p[2*length-1] = true, true
		f := laid(t, p)
		if f.Longest() != 2*length-2 {
			t.Fatal(f.Longest())
		}
		first, e := f.Take(size)
		told(t, first, e, 0, api.ErrMem, "size", size)
		check(t, f, p, "size", size)
		first, e = f.TakeMany(length)
		told(t, first, e, 1, api.OK, "as many, wherever, size", size)
	}
}

func TestTakeEachLayout(t *testing.T) {
	for _, n := range []int{7, 8, 12} {
		for bits := range 1 << n {
			for size := range runLengths {
				p := layout(n, bits)
				f := laid(t, p)
				want, wantErrno := p.take(size)
				first, e := f.Take(size)
				told(t, first, e, want, wantErrno, "layout", n, bits, "size", size)
				if !slices.Equal(f.List(), p.list()) || f.Free() != n-len(p.list()) {
					t.Fatal("layout", n, bits, "size", size, f.List(), f.Free())
				}
			}
		}
	}
}

func TestWrongSizes(t *testing.T) {
	for _, n := range []int{0, 1, 8, 600} {
		f, p := New(n), make(plain, n)
		for _, size := range wrongSizes {
			first, e := f.Take(size)
			told(t, first, e, 0, api.ErrArg, "Take", size, "of", n)
		}
		check(t, f, p, "behind wrong sizes")
		if n == 0 {
			continue
		}
		// That there is no room is told only of sizes that are.
		must(t, takeMany(f, f.Len()))
		p.set(0, n, true)
		for _, size := range wrongSizes {
			first, e := f.Take(size)
			told(t, first, e, 0, api.ErrArg, "Take", size, "of full", n)
		}
		check(t, f, p, "behind wrong sizes, full")
	}
}

func TestTakeManyEnds(t *testing.T) {
	for _, n := range append([]int{most}, counts...) {
		f, p := New(n), make(plain, n)
		first, e := f.TakeMany(n + 1)
		told(t, first, e, 0, api.ErrMem, "one more than all of", n)
		check(t, f, p, "one more than all of", n)
		if n == 0 {
			continue
		}
		first, e = f.TakeMany(n)
		told(t, first, e, 0, api.OK, "all of", n)
		p.set(0, n, true)
		check(t, f, p, "all of", n)
		first, e = f.TakeMany(1)
		told(t, first, e, 0, api.ErrMem, "one more, of full", n)
		must(t, f.Give(n-1, 1))
		first, e = f.TakeMany(2)
		told(t, first, e, 0, api.ErrMem, "two, where one is free, of", n)
		first, e = f.TakeMany(1)
		told(t, first, e, n-1, api.OK, "the last one of", n)
		check(t, f, p, "the last one of", n)
	}
}

// TestTakeManyAcross takes frames that begin in one run and end in another one, of each size.
func TestTakeManyAcross(t *testing.T) {
	for size, length := range runLengths {
		f, p := New(4*length+5), make(plain, 4*length+5)
		for _, n := range []int{1, length, length + 1, 1, 2*length - 1} {
			want, wantErrno := p.takeMany(n)
			first, e := f.TakeMany(n)
			told(t, first, e, want, wantErrno, "TakeMany", n, "size", size)
			check(t, f, p, "TakeMany", n, "size", size)
		}
		if f.Free() != 3 || f.Longest() != 3 {
			t.Error("size", size, "Free", f.Free(), "Longest", f.Longest())
		}
	}
}

// TestTakeManyFirst takes the first frames that are enough, not those that fit best.
func TestTakeManyFirst(t *testing.T) {
	for _, c := range []struct {
		n, want int
		errno   api.Errno
	}{{1, 2, api.OK}, {2, 2, api.OK}, {3, 5, api.OK}, {4, 5, api.OK}, {5, 10, api.OK}, {6, 10, api.OK}, {7, 0, api.ErrMem}, {20, 0, api.ErrMem}} {
		p := make(plain, 20)
		p.set(0, 20, true)
		p.set(2, 2, false)
		p.set(5, 4, false)
		p.set(10, 6, false)
		p.set(17, 3, false)
		f := laid(t, p)
		first, e := f.TakeMany(c.n)
		told(t, first, e, c.want, c.errno, "TakeMany", c.n)
		if e == api.OK {
			p.set(first, c.n, true)
		}
		check(t, f, p, "TakeMany", c.n)
	}
}

func TestTakeManyEachLayout(t *testing.T) {
	for n := range 10 {
		for bits := range 1 << n {
			for many := -1; many <= n+1; many++ {
				p := layout(n, bits)
				f := laid(t, p)
				want, wantErrno := p.takeMany(many)
				first, e := f.TakeMany(many)
				told(t, first, e, want, wantErrno, "layout", n, bits, "TakeMany", many)
				if !slices.Equal(f.List(), p.list()) || f.Free() != n-len(p.list()) {
					t.Fatal("layout", n, bits, "TakeMany", many, f.List(), f.Free())
				}
			}
		}
	}
}

func TestWrongNumbers(t *testing.T) {
	for _, n := range []int{0, 1, 8, 600, most} {
		f, p := New(n), make(plain, n)
		for _, full := range []bool{false, true} {
			if full && n > 0 {
				must(t, takeMany(f, f.Len()))
				p.set(0, n, true)
			}
			for _, many := range wrongNumbers {
				first, e := f.TakeMany(many)
				told(t, first, e, 0, api.ErrArg, "TakeMany", many, "of", n)
			}
			for _, many := range hugeNumbers {
				first, e := f.TakeMany(many)
				told(t, first, e, 0, api.ErrMem, "TakeMany", many, "of", n)
			}
			check(t, f, p, "behind wrong numbers of", n)
		}
	}
}

// P5.3

func TestGiveEachLayout(t *testing.T) {
	for _, n := range []int{0, 1, 2, 7, 8} {
		for bits := range 1 << n {
			for first := -2; first <= n+1; first++ {
				for many := -2; many <= n+2; many++ {
					p := layout(n, bits)
					f := laid(t, p)
					want := p.give(first, many)
					if e := f.Give(first, many); e != want {
						t.Fatal("layout", n, bits, "Give", first, many, "told", e, "want", want)
					}
					if !slices.Equal(f.List(), p.list()) || f.Free() != n-len(p.list()) {
						t.Fatal("layout", n, bits, "Give", first, many, f.List(), f.Free())
					}
				}
			}
		}
	}
}

// TestGivePart gives back the ends and the middle of what one call took.
func TestGivePart(t *testing.T) {
	f, p := New(100), make(plain, 100)
	first, e := f.Take(2)
	told(t, first, e, 0, api.OK)
	p.set(0, 64, true)
	for _, c := range []struct{ first, n int }{{0, 1}, {63, 1}, {20, 10}, {1, 3}, {60, 3}, {4, 16}, {30, 30}} {
		must(t, f.Give(c.first, c.n))
		p.set(c.first, c.n, false)
		check(t, f, p, "Give", c.first, c.n)
	}
	check(t, f, make(plain, 100), "all given")
}

// TestGiveOfSeveral gives back at once what several calls took.
func TestGiveOfSeveral(t *testing.T) {
	f, p := New(600), make(plain, 600)
	for size := range 3 {
		_, e := f.Take(size)
		must(t, e)
	}
	_, e := f.TakeMany(62)
	must(t, e)
	p.set(0, 1, true)
	p.set(8, 8, true)
	p.set(64, 64, true)
	p.set(128, 62, true)
	// The first 62 that are free one behind the other stand behind the run of 64, since only 48 stand ahead of it.
	check(t, f, p, "taken")
	must(t, f.Give(10, 6), f.Give(70, 100))
	p.set(10, 6, false)
	p.set(70, 100, false)
	check(t, f, p, "given")
	for _, c := range []struct{ first, n int }{{0, 2}, {7, 3}, {8, 3}, {60, 10}, {64, 7}, {64, 126}, {169, 21}, {0, 600}, {0, 190}} {
		if e := f.Give(c.first, c.n); e != api.ErrState {
			t.Error("Give", c.first, c.n, e)
		}
	}
	check(t, f, p, "not given")
	must(t, f.Give(170, 20), f.Give(64, 6), f.Give(8, 2), f.Give(0, 1))
	check(t, f, make(plain, 600), "all given")
}

// TestGiveErrorsInOrder asks for what several errors apply to: of numbers below 1, then of frames that are not there, then of free ones.
func TestGiveErrorsInOrder(t *testing.T) {
	for _, n := range []int{0, 1, 20, 513, most} {
		for _, full := range []bool{false, true} {
			f, p := New(n), make(plain, n)
			if full && n > 0 {
				must(t, takeMany(f, f.Len()))
				p.set(0, n, true)
			}
			firsts := append([]int{0, n / 2, n - 1, n, n + 1}, noFrames...)
			for _, first := range firsts {
				for _, many := range wrongNumbers {
					if e := f.Give(first, many); e != api.ErrArg {
						t.Fatal("Give", first, many, "of", n, e)
					}
				}
				for _, many := range append([]int{n + 1}, hugeNumbers...) {
					if e := f.Give(first, many); e != api.ErrRange {
						t.Fatal("Give", first, many, "of", n, e)
					}
				}
			}
			for _, first := range append([]int{n, n + 1, n + 512}, noFrames...) {
				for _, many := range []int{1, 2, 8, 512, most} {
					if e := f.Give(first, many); e != api.ErrRange {
						t.Fatal("Give", first, many, "of", n, e)
					}
				}
			}
			check(t, f, p, "behind wrong gives of", n)
		}
	}
}

// TestGiveWhereASumWraps gives first frames and numbers whose sums, wrapped round, would be in range.
func TestGiveWhereASumWraps(t *testing.T) {
	f := New(20)
	must(t, takeMany(f, f.Len()))
	for _, c := range []struct{ first, n int }{
		{math.MaxInt, math.MaxInt}, {math.MaxInt, 1}, {math.MaxInt, 2}, {1, math.MaxInt}, {2, math.MaxInt}, {19, math.MaxInt}, {math.MaxInt - 5, 10},
		{math.MinInt, 1}, {math.MinInt, math.MaxInt}, {math.MinInt + 1, math.MaxInt}, {-1, math.MaxInt}, {-1, 2}, {-1, 21}, {-5, 10}, {-math.MaxInt + 10, math.MaxInt},
		{1 << 62, 1 << 62}, {1<<62 + 5, 1 << 62},
	} {
		if e := f.Give(c.first, c.n); e != api.ErrRange {
			t.Error("Give", c.first, c.n, e)
		}
	}
	if f.Free() != 0 || len(f.List()) != 20 {
		t.Error(f.Free(), f.List())
	}
}

// TestGiveRangeAheadOfState gives frames of which one is free and one is not there.
func TestGiveRangeAheadOfState(t *testing.T) {
	f := New(20)
	must(t, takeMany(f, f.Len()), f.Give(19, 1), f.Give(0, 1))
	for _, c := range []struct {
		first, n int
		want     api.Errno
	}{{19, 1, api.ErrState}, {19, 2, api.ErrRange}, {18, 2, api.ErrState}, {18, 3, api.ErrRange}, {0, 1, api.ErrState}, {-1, 2, api.ErrRange}, {0, 20, api.ErrState}, {0, 21, api.ErrRange}, {20, 1, api.ErrRange}, {19, 0, api.ErrArg}, {20, 0, api.ErrArg}, {-1, 0, api.ErrArg}} {
		if e := f.Give(c.first, c.n); e != c.want {
			t.Error("Give", c.first, c.n, e)
		}
	}
	if f.Free() != 2 || f.Longest() != 1 {
		t.Error(f.Free(), f.Longest())
	}
}

func TestGiveTwice(t *testing.T) {
	f := New(most)
	must(t, takeMany(f, f.Len()), f.Give(0, most))
	check(t, f, make(plain, most), "all given")
	for _, c := range []struct{ first, n int }{{0, most}, {0, 1}, {most - 1, 1}, {512, 512}} {
		if e := f.Give(c.first, c.n); e != api.ErrState {
			t.Error("Give", c.first, c.n, e)
		}
	}
	must(t, takeMany(f, f.Len()))
}

// P5.4

// held is what one call took.
type held struct{ first, n int }

// TestTakenIsNone takes and gives whatever comes, and asserts that what is taken is none that was, and that nothing else changes.
func TestTakenIsNone(t *testing.T) {
	r := rand.New(rand.NewSource(5))
	for _, n := range counts {
		f, p := New(n), make(plain, n)
		var all []held
		for step := range 150 {
			if len(all) > 0 && r.Intn(5) < 2 {
				i := r.Intn(len(all))
				must(t, f.Give(all[i].first, all[i].n))
				p.set(all[i].first, all[i].n, false)
				all = slices.Delete(all, i, i+1)
				check(t, f, p, "of", n, "step", step, "given")
				continue
			}
			size, count := r.Intn(4), 1+r.Intn(n/3+2)
			first, e := 0, api.OK
			if r.Intn(2) == 0 {
				count = runLengths[size]
				first, e = f.Take(size)
			} else {
				first, e = f.TakeMany(count)
			}
			if e == api.OK {
				if !p.are(first, count, false) {
					t.Fatal("of", n, "step", step, "told", first, "of", count, "where some were taken")
				}
				p.set(first, count, true)
				all = append(all, held{first, count})
			}
			check(t, f, p, "of", n, "step", step, "taken")
		}
	}
}

// TestTakeAndGiveIsAsBefore takes and gives back, behind whatever was done ahead: all is told as ahead, and taken again as then.
func TestTakeAndGiveIsAsBefore(t *testing.T) {
	r := rand.New(rand.NewSource(54))
	for _, n := range counts {
		for range 20 {
			p := make(plain, n)
			// Few frames are taken, so that there is room for great runs, too.
			for range r.Intn(6) {
				if n > 0 {
					p[r.Intn(n)] = true
				}
			}
			f := laid(t, p)
			for size, length := range runLengths {
				first, e := f.Take(size)
				if e == api.OK {
					must(t, f.Give(first, length))
				}
				check(t, f, p, "of", n, "size", size)
				again, errno := f.Take(size)
				told(t, again, errno, first, e, "of", n, "size", size, "again")
				if e == api.OK {
					must(t, f.Give(first, length))
				}
			}
			for many := f.Longest(); many > 0; many /= 2 {
				first, e := f.TakeMany(many)
				must(t, e, f.Give(first, many))
				check(t, f, p, "of", n, "TakeMany", many)
			}
		}
	}
}

// TestGiveAndTakeIsAsBefore gives some of all, which then are the only ones that can be taken.
func TestGiveAndTakeIsAsBefore(t *testing.T) {
	for _, n := range []int{513, 1024, 1600} {
		f, p := New(n), make(plain, n)
		must(t, takeMany(f, f.Len()))
		p.set(0, n, true)
		for size, length := range runLengths {
			for from := 0; from+length <= n; from += max(length, 37) {
				must(t, f.Give(from, length))
				first, e := f.TakeMany(length)
				told(t, first, e, from, api.OK, "of", n, "from", from, "TakeMany", length)
				must(t, f.Give(from, length))
				if from%length == 0 {
					first, e = f.Take(size)
					told(t, first, e, from, api.OK, "of", n, "from", from, "size", size)
				} else {
					must(t, takeMany(f, length))
				}
			}
			check(t, f, p, "of", n, "size", size)
		}
	}
}

// TestAnyCalls makes right and wrong calls one behind the other, and holds each answer, and all that is told behind it, against the plain list.
func TestAnyCalls(t *testing.T) {
	r := rand.New(rand.NewSource(500))
	for _, n := range counts {
		f, p := New(n), make(plain, n)
		for step := range 300 {
			switch r.Intn(3) {
			case 0:
				size := r.Intn(6) - 1
				want, wantErrno := p.take(size)
				first, e := f.Take(size)
				told(t, first, e, want, wantErrno, "of", n, "step", step, "Take", size)
			case 1:
				many := r.Intn(n/8+4) - 1
				want, wantErrno := p.takeMany(many)
				first, e := f.TakeMany(many)
				told(t, first, e, want, wantErrno, "of", n, "step", step, "TakeMany", many)
			case 2:
				from, many := r.Intn(n+3)-1, r.Intn(n/8+4)-1
				want := p.give(from, many)
				if e := f.Give(from, many); e != want {
					t.Fatal("of", n, "step", step, "Give", from, many, "told", e, "want", want)
				}
			}
			check(t, f, p, "of", n, "step", step)
		}
	}
}
