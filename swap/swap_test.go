package swap

import (
	"math"
	"math/rand"
	"slices"
	"testing"

	"lookaside/api"
	"lookaside/frames"
	"lookaside/memory"
	"lookaside/tsb"
)

const (
	bad    = uint64(0x7fffffffffffffff) // the tag of a place that is locked
	odd    = uint64(0xa5c3_9617_e84b_2d5f)
	behind = uint64(0xfffff80000000000) // the first address behind the hole
)

// bytes are the pages' bytes, least the places of each size in the grade 0, rows the frames of each size and grade, all written out.
var (
	bytes = []uint64{8192, 65536, 524288, 4194304}
	least = []int{512, 64, 8, 1}
	rows  = [][]int{{1, 2, 4, 8}, {1, 1, 1, 1}, {1, 1, 1, 1}, {1, 1, 1, 1}}
)

// unknown are numbers that are no size and no grade; some of them are one modulo a power of 2.
var unknown = []int{math.MinInt, math.MinInt + 1, math.MinInt + 3, -1 << 62, -1 << 32, -1<<32 + 1, -64, -4, -3, -2, -1, 4, 5, 6, 7, 8, 63, 64, 65, 1 << 32, 1<<32 + 1, 1 << 62, math.MaxInt - 3, math.MaxInt - 1, math.MaxInt}

// count is how many places there are, by doubling.
func count(size, grade int) int {
	n := least[size]
	for range grade {
		n += n
	}
	return n
}

// each does something with each size and grade.
func each(do func(size, grade int)) {
	for size := range bytes {
		for grade := range 4 {
			do(size, grade)
		}
	}
}

// eachWrong does something with sizes and grades of which one, or both, are none.
func eachWrong(do func(size, grade int)) {
	for _, x := range unknown {
		for y := range 4 {
			do(x, y)
			do(y, x)
		}
		for _, y := range unknown {
			do(x, y)
		}
	}
}

// must asserts that a call was told OK.
func must(t *testing.T, errnos ...api.Errno) {
	t.Helper()
	for i, e := range errnos {
		if e != api.OK {
			t.Fatal(i, e)
		}
	}
}

// of is an entry of a context, a size and an address, whose frames and attributes go by these.
func of(ctx, size int, va uint64) api.Entry {
	at := va / bytes[size] % 1000
	return api.Entry{Valid: true, Ctx: ctx, Size: size, Va: va, Pa: (at + uint64(ctx%7) + 1) * bytes[size], Attr: api.Attr{Write: at%2 == 0, Exec: at%3 == 0, Priv: ctx%2 == 1, Lock: at%5 == 1, Quiet: at%7 == 2}}
}

// some is an entry of a size, at either end of all addresses.
func some(r *rand.Rand, size int) api.Entry {
	va := uint64(r.Int63n(1<<43)) / bytes[size] * bytes[size]
	if r.Intn(2) == 0 {
		va += behind
	}
	e := of(r.Intn(8192), size, va)
	if r.Intn(4) == 0 {
		e.Ctx, e.Attr.Global = 0, true
	}
	return e
}

// flag is a bit of a word, if it is.
func flag(bit int, is bool) uint64 {
	if is {
		return 1 << bit
	}
	return 0
}

// pair is the tag and the data of an entry that may be, added up by chapter 3's words.
func pair(e api.Entry) (uint64, uint64) {
	tag := uint64(e.Ctx)*(1<<48) + e.Va/4194304%4194304 + flag(63, e.Attr.Global)
	data := 1<<63 + uint64(e.Size)*(1<<61) + e.Pa + flag(60, e.Attr.Quiet) + flag(6, e.Attr.Lock) + flag(3, e.Attr.Exec) + flag(2, e.Attr.Priv) + flag(1, e.Attr.Write) + flag(0, e.Attr.Global)
	return tag, data
}

// laid is a TSB, and what it must be: where it begins, and what stands at each place (the zero entry: none).
type laid struct {
	x                  *tsb.Tsb
	first, size, grade int
	at                 []api.Entry
}

// place is an address's.
func (l *laid) place(va uint64) int { return int(va / bytes[l.size] % uint64(len(l.at))) }

// list is all entries, as the places rise.
func (l *laid) list() []api.Entry {
	return slices.DeleteFunc(slices.Clone(l.at), func(e api.Entry) bool { return !e.Valid })
}

// world is a memory and frames, and what they must be: each word, which frames are taken, and the TSBs.
type world struct {
	t     *testing.T
	m     *memory.Memory
	f     *frames.Frames
	words []uint64
	taken []bool
	tsbs  []*laid
}

// begin is so many frames, all of them free, and a memory that has some words more; no word there is 0, and no two that stand near are the same.
func begin(t *testing.T, n, more int) *world {
	t.Helper()
	w := &world{t: t, m: memory.New(uint64(8192*n + 8*more)), f: frames.New(n), words: make([]uint64, 1024*n+more), taken: make([]bool, n)}
	for i := range w.words {
		w.words[i] = odd + uint64(i)
		must(t, w.m.PutWord(uint64(8*i), w.words[i]))
	}
	return w
}

// take takes some frames, of such as are all free.
func (w *world) take(list ...int) {
	w.t.Helper()
	// All are taken, and those that are not asked for are given back.
	_, e := w.f.TakeMany(len(w.taken))
	must(w.t, e)
	for i := range w.taken {
		w.taken[i] = slices.Contains(list, i)
		if !w.taken[i] {
			must(w.t, w.f.Give(i, 1))
		}
	}
}

// row is the first frame of the first n that are free, one behind the other; -1, if there are none.
func (w *world) row(n int) int {
	for first := 0; first+n <= len(w.taken); first++ {
		if !slices.Contains(w.taken[first:first+n], true) {
			return first
		}
	}
	return -1
}

// put puts two words at a place of what must be.
func (w *world) put(l *laid, place int, tag, data uint64) {
	at := 1024*l.first + 2*place
	w.words[at], w.words[at+1] = tag, data
}

// made takes a TSB's frames, in what must be, and locks its places; nil, if there is no room.
func (w *world) made(size, grade int) *laid {
	n := rows[size][grade]
	l := &laid{first: w.row(n), size: size, grade: grade, at: make([]api.Entry, count(size, grade))}
	if l.first < 0 {
		return nil
	}
	for i := range n {
		w.taken[l.first+i] = true
	}
	for i := range l.at {
		w.put(l, i, bad, 0)
	}
	w.tsbs = append(w.tsbs, l)
	return l
}

// gone gives a TSB's frames back, in what must be, and makes all their bytes 0.
func (w *world) gone(l *laid) {
	n := rows[l.size][l.grade]
	for i := range n {
		w.taken[l.first+i] = false
	}
	clear(w.words[1024*l.first : 1024*(l.first+n)])
	w.tsbs = slices.DeleteFunc(w.tsbs, func(o *laid) bool { return o == l })
}

// stand is an entry at its place, in what must be.
func (w *world) stand(l *laid, e api.Entry) {
	tag, data := pair(e)
	l.at[l.place(e.Va)] = e
	w.put(l, l.place(e.Va), tag, data)
}

// make makes a TSB; nil, if there is no room.
func (w *world) make(size, grade int) *laid {
	w.t.Helper()
	l := w.made(size, grade)
	x, e := Make(w.m, w.f, size, grade)
	if l == nil {
		if x != nil || e != api.ErrMem {
			w.t.Fatal("Make", size, grade, "no room", x, e)
		}
		return nil
	}
	if x == nil || e != api.OK {
		w.t.Fatal("Make", size, grade, x, e)
	}
	l.x = x
	return l
}

// change changes a TSB; the old one, if there is no room.
func (w *world) change(l *laid, grade int) (*laid, bool) {
	w.t.Helper()
	o, list := w.made(l.size, grade), l.list()
	x, n, e := Change(w.m, w.f, l.x, l.size, grade)
	if o == nil {
		if x != nil || n != 0 || e != api.ErrMem {
			w.t.Fatal("Change", l.size, l.grade, grade, "no room", x, n, e)
		}
		return l, false
	}
	if x == nil || n != len(list) || e != api.OK {
		w.t.Fatal("Change", l.size, l.grade, grade, x, n, e, "want", len(list))
	}
	o.x = x
	for _, e := range list {
		w.stand(o, e)
	}
	w.gone(l)
	return o, true
}

// drop drops a TSB.
func (w *world) drop(l *laid) {
	w.t.Helper()
	if e := Drop(w.m, w.f, l.x, l.size); e != api.OK {
		w.t.Fatal("Drop", l.size, l.grade, e)
	}
	w.gone(l)
}

// insert inserts entries.
func (w *world) insert(l *laid, list ...api.Entry) {
	w.t.Helper()
	for _, e := range list {
		must(w.t, l.x.Insert(e))
		w.stand(l, e)
	}
}

// lock locks an address's place, whose data stays.
func (w *world) lock(l *laid, va uint64) {
	i := l.place(va)
	l.x.Lock(va)
	l.at[i] = api.Entry{}
	w.words[1024*l.first+2*i] = bad
}

// junk puts words that are no entry's at a place.
func (w *world) junk(l *laid, place int, tag, data uint64) {
	w.t.Helper()
	must(w.t, w.m.PutPair(uint64(8192*l.first+16*place), tag, data))
	l.at[place] = api.Entry{}
	w.put(l, place, tag, data)
}

// fill inserts so many entries.
func (w *world) fill(r *rand.Rand, l *laid, n int) {
	w.t.Helper()
	for range n {
		w.insert(l, some(r, l.size))
	}
}

// check asserts that all is as it must be: each frame, each word and each TSB.
func (w *world) check(said ...any) {
	w.t.Helper()
	free := 0
	for i, is := range w.taken {
		if w.f.Is(i) != is {
			w.t.Fatal(said, "the frame", i, "is taken:", !is)
		}
		if !is {
			free++
		}
	}
	if w.f.Free() != free || w.f.Len() != len(w.taken) {
		w.t.Fatal(said, "Free", w.f.Free(), "Len", w.f.Len(), "want", free, len(w.taken))
	}
	for i, want := range w.words {
		if got, e := w.m.Word(uint64(8 * i)); e != api.OK || got != want {
			w.t.Fatalf("%v: at %#x, the frame %d, stands %x, not %x (%d)", said, 8*i, i/1024, got, want, e)
		}
	}
	for _, l := range w.tsbs {
		w.tells(l, said...)
	}
}

// tells asserts what a TSB tells of itself.
func (w *world) tells(l *laid, said ...any) {
	w.t.Helper()
	if l.x.Base() != uint64(8192*l.first) || l.x.Len() != len(l.at) || l.x.Grade() != l.grade {
		w.t.Fatal(said, "Base", l.x.Base(), "Len", l.x.Len(), "Grade", l.x.Grade(), "want", 8192*l.first, len(l.at), l.grade)
	}
	list := l.list()
	if got := l.x.List(); !slices.Equal(got, list) {
		w.t.Fatal(said, "List", got, "want", list)
	}
	for _, e := range list {
		if got, is := l.x.Find(e.Va+bytes[l.size]-1, e.Ctx); !is || got != e {
			w.t.Fatal(said, "Find", got, is, "want", e)
		}
	}
}

// P13.1

func TestFrames(t *testing.T) {
	each(func(size, grade int) {
		if got := Frames(size, grade); got != rows[size][grade] {
			t.Error(size, grade, got)
		}
	})
}

// By the chapter's words: as few as have the places' bytes.
func TestFramesHoldAllPlaces(t *testing.T) {
	each(func(size, grade int) {
		have, want := 8192*Frames(size, grade), 16*tsb.Places(size, grade)
		if have < want || have-8192 >= want || want != 16*count(size, grade) {
			t.Error(size, grade, have, want)
		}
	})
}

func TestFramesOfNone(t *testing.T) {
	eachWrong(func(size, grade int) {
		if got := Frames(size, grade); got != 0 {
			t.Error(size, grade, got)
		}
	})
}

func TestMakeInFreeFrames(t *testing.T) {
	each(func(size, grade int) {
		w := begin(t, 10, 6)
		l := w.make(size, grade)
		if l.x.Base() != 0 || l.x.Len() != count(size, grade) || l.x.Locked() != l.x.Len() || w.f.Free() != 10-rows[size][grade] {
			t.Fatal(size, grade, l.x.Base(), l.x.Len(), l.x.Locked(), w.f.Free())
		}
		w.check(size, grade)
	})
}

// One behind the other, till there is no room; each begins where its first frame does.
func TestMakeManyInRow(t *testing.T) {
	each(func(size, grade int) {
		n := rows[size][grade]
		w := begin(t, 2*n+n/2+1, 0)
		for i := 0; (i+1)*n <= len(w.taken); i++ {
			if l := w.make(size, grade); l == nil || l.x.Base() != uint64(i*n*8192) {
				t.Fatal(size, grade, i)
			}
			w.check(size, grade, i)
		}
		if w.make(size, grade) != nil {
			t.Fatal(size, grade)
		}
		w.check(size, grade)
	})
}

// The same words as chapter 10's New lays.
func TestMakeIsAsNew(t *testing.T) {
	each(func(size, grade int) {
		w := begin(t, 9, 0)
		w.take(0)
		x, e := Make(w.m, w.f, size, grade)
		must(t, e)
		o := begin(t, 9, 0)
		y, e := tsb.New(o.m, 8192, size, grade)
		must(t, e)
		if x.Base() != y.Base() || x.Len() != y.Len() || x.Grade() != y.Grade() || x.Locked() != y.Locked() {
			t.Fatal(size, grade, x.Base(), x.Len(), x.Grade(), x.Locked())
		}
		for at := uint64(0); at < w.m.Size(); at += 8 {
			got, _ := w.m.Word(at)
			if want, _ := o.m.Word(at); got != want {
				t.Fatalf("%d %d: at %#x stands %x, not %x", size, grade, at, got, want)
			}
		}
	})
}

// All ways in which nine frames may be taken, and all numbers of frames.
func TestMakeTakesTheFirstRow(t *testing.T) {
	for ways := range 1 << 9 {
		for grade, n := range rows[0] {
			w := &world{t: t, m: memory.New(9 * 8192), f: frames.New(9), taken: make([]bool, 9)}
			var list []int
			for i := range 9 {
				if ways>>i&1 == 1 {
					list = append(list, i)
				}
			}
			w.take(list...)
			first := w.row(n)
			x, e := Make(w.m, w.f, 0, grade)
			if first < 0 {
				if x != nil || e != api.ErrMem || w.m.Used() != 0 || !slices.Equal(w.f.List(), list) {
					t.Fatal(list, grade, x, e, w.f.List())
				}
				continue
			}
			for i := range n {
				list = append(list, first+i)
			}
			slices.Sort(list)
			if e != api.OK || x.Base() != uint64(8192*first) || w.m.Used() != 512<<grade || !slices.Equal(w.f.List(), list) {
				t.Fatal(list, grade, e, w.f.List())
			}
		}
	}
}

// Rooms for the grade 2, four frames: just as many, as many that don't stand in one row, one too few, and more.
func TestMakeRooms(t *testing.T) {
	for _, c := range []struct {
		taken []int
		first int
	}{
		{[]int{0, 1, 6, 7, 8}, 2},
		{[]int{4, 5, 6, 7, 8}, 0},
		{[]int{0, 1, 2, 3, 4}, 5},
		{[]int{3, 4, 5, 6}, -1},
		{[]int{1, 3, 5, 7}, -1},
		{[]int{3, 7}, -1},
		{[]int{0, 1, 2, 6, 7, 8}, -1},
		{[]int{0, 1, 2, 3, 4, 5}, -1},
		{[]int{3}, 4},
		{[]int{8}, 0},
		{nil, 0},
		{[]int{0, 1, 2, 3, 4, 5, 6, 7, 8}, -1},
	} {
		w := begin(t, 9, 2)
		w.take(c.taken...)
		l := w.make(0, 2)
		if (l == nil) != (c.first < 0) || l != nil && l.x.Base() != uint64(c.first*8192) {
			t.Fatal(c, l)
		}
		w.check(c)
	}
}

// No size and no grade are told ahead of no room.
func TestMakeWrong(t *testing.T) {
	roomy, full, none := begin(t, 9, 4), begin(t, 2, 0), begin(t, 0, 4)
	roomy.take(1)
	full.take(0, 1)
	for _, w := range []*world{roomy, full, none} {
		eachWrong(func(size, grade int) {
			if x, e := Make(w.m, w.f, size, grade); x != nil || e != api.ErrArg {
				t.Fatal(len(w.taken), size, grade, x, e)
			}
		})
		w.check(len(w.taken))
	}
}

func TestMakeInNoFrames(t *testing.T) {
	for _, more := range []int{0, 1024, 20000} {
		w := begin(t, 0, more)
		each(func(size, grade int) {
			if w.make(size, grade) != nil {
				t.Fatal(size, grade, more)
			}
		})
		w.check(more)
	}
}

// What the memory has behind the last frame is no frame.
func TestMakeInGreaterMemory(t *testing.T) {
	w := begin(t, 3, 9*1024)
	if w.make(0, 2) != nil {
		t.Fatal("in four frames of three")
	}
	w.check("none")
	w.make(0, 1)
	w.make(0, 0)
	w.check("full")
	if w.make(3, 0) != nil {
		t.Fatal("in none")
	}
	w.check("full still")
}

// At the end of the greatest number of frames.
func TestMakeInManyFrames(t *testing.T) {
	m, f := memory.New(65536*8192), frames.New(65536)
	_, e := f.TakeMany(65536 - 9)
	must(t, e)
	x, e := Make(m, f, 0, 3)
	must(t, e)
	if x.Base() != (65536-9)*8192 || f.Free() != 1 || m.Used() != 4096 {
		t.Fatal(x.Base(), f.Free(), m.Used())
	}
	a := of(3, 0, behind+8192)
	must(t, x.Insert(a))
	if y, n, e := Change(m, f, x, 0, 1); y != nil || n != 0 || e != api.ErrMem {
		t.Fatal(y, n, e)
	}
	y, n, e := Change(m, f, x, 0, 0)
	if e != api.OK || n != 1 || y.Base() != 65535*8192 || f.Free() != 8 || m.Used() != 513 {
		t.Fatal(n, e, f.Free(), m.Used())
	}
	if got, is := y.Find(a.Va, 3); got != a || !is {
		t.Fatal(got, is)
	}
	must(t, Drop(m, f, y, 0))
	if f.Free() != 9 || m.Used() != 0 {
		t.Fatal(f.Free(), m.Used())
	}
}

// P13.2

// amounts are how many entries are inserted into a TSB of so many places: none, one, some, and many over one another.
func amounts(places int) []int { return []int{0, 1, places/3 + 1, 2 * places} }

func TestChangeEach(t *testing.T) {
	r := rand.New(rand.NewSource(13))
	each(func(size, from int) {
		for to := range 4 {
			for _, n := range amounts(count(size, from)) {
				w := begin(t, 18, 4)
				w.take(1)
				l := w.make(size, from)
				w.fill(r, l, n)
				if _, is := w.change(l, to); !is {
					t.Fatal(size, from, to, n)
				}
				w.check(size, from, to, n)
			}
		}
	})
}

// Written out: in the grade 1 the pages 3 and 515 have a place each, in the grade 0 one; the one whose place was the higher one stays.
func TestChangeToLessGrade(t *testing.T) {
	w := begin(t, 4, 0)
	l := w.make(0, 1)
	low, high, alone := of(1, 0, 3*8192), of(2, 0, 515*8192), of(3, 0, 5*8192)
	w.insert(l, high, low, alone)
	y, n, e := Change(w.m, w.f, l.x, 0, 0)
	if e != api.OK || n != 3 || y.Base() != 2*8192 || y.Len() != 512 {
		t.Fatal(n, e)
	}
	if got := y.List(); !slices.Equal(got, []api.Entry{high, alone}) {
		t.Fatal(got)
	}
	if _, is := y.Find(low.Va, 1); is || y.Locked() != 510 || w.f.Free() != 3 {
		t.Fatal(is, y.Locked(), w.f.Free())
	}
}

// All places of the greatest grade, into each less one: all are told, and of those of one place that of the highest old one stays.
func TestChangeOfFullOne(t *testing.T) {
	for size, n := range bytes {
		for to := range 4 {
			w := begin(t, 16, 0)
			l := w.make(size, 3)
			for i := range l.at {
				w.insert(l, of(i%8191+1, size, uint64(i)*n))
			}
			o, is := w.change(l, to)
			places := count(size, to)
			if list := o.x.List(); !is || len(list) != places || list[0].Va != uint64(len(l.at)-places)*n {
				t.Fatal(size, to, len(list), list[0])
			}
			w.check(size, to)
		}
	}
}

func TestChangeWithLockedPlaces(t *testing.T) {
	r := rand.New(rand.NewSource(4))
	each(func(size, from int) {
		for to := range 4 {
			w := begin(t, 16, 0)
			l := w.make(size, from)
			w.fill(r, l, 2*len(l.at))
			for i, e := range l.list() {
				if i%3 != 1 {
					w.lock(l, e.Va)
				}
			}
			if _, is := w.change(l, to); !is {
				t.Fatal(size, from, to)
			}
			w.check(size, from, to)
		}
	})
}

// Words that are no entry's are not told, and go with the old one; so does what stands behind the places, where the frame has more bytes.
func TestChangeWithJunk(t *testing.T) {
	for size := range bytes {
		w := begin(t, 18, 0)
		l := w.make(size, 3)
		good := of(7, size, 5*bytes[size])
		w.insert(l, good)
		for i := range l.at {
			tag, data := pair(of(7, size, uint64(i)*bytes[size]))
			switch i % 6 {
			case 0:
				w.junk(l, i, tag, 0) // data that is not valid
			case 1:
				w.junk(l, i, tag, data^1<<61) // of another size
			case 2:
				w.junk(l, i, tag, data|1<<62^1<<61) // of another one
			case 3:
				w.junk(l, i, bad, odd)
			case 4:
				w.junk(l, i, 0, 0)
			}
		}
		o, is := w.change(l, 2)
		if got := o.x.List(); !is || !slices.Equal(got, o.list()) || !slices.Contains(got, good) {
			t.Fatal(size, is, got)
		}
		w.check(size)
	}
}

// An entry keeps each of its fields.
func TestChangeKeepsEachField(t *testing.T) {
	for size, n := range bytes {
		for bits := range 64 {
			a := api.Attr{Write: bits&1 != 0, Priv: bits&2 != 0, Exec: bits&4 != 0, Lock: bits&8 != 0, Global: bits&16 != 0, Quiet: bits&32 != 0}
			e := api.Entry{Valid: true, Ctx: 8191, Size: size, Va: behind + 77*n, Pa: 1<<41 - n, Attr: a}
			if a.Global {
				e.Ctx = 0
			}
			m, f := memory.New(2*8192), frames.New(2)
			x, errno := Make(m, f, size, 0)
			must(t, errno, x.Insert(e))
			y, told, errno := Change(m, f, x, size, 0)
			must(t, errno)
			if got := y.List(); told != 1 || !slices.Equal(got, []api.Entry{e}) {
				t.Fatal(size, bits, told, got)
			}
		}
	}
}

// The old one's frames are not the new one's, though they would do, nor do they make a room with those beside them.
func TestChangeTakesAheadOfGiving(t *testing.T) {
	for _, c := range []struct{ frames, from, to, first, free int }{
		{9, 3, 0, 8, 8},
		{10, 3, 1, 8, 8},
		{12, 3, 2, 8, 8},
		{16, 3, 3, 8, 8},
		{2, 0, 0, 1, 1},
		{3, 0, 1, 1, 1},
		{9, 0, 3, 1, 1},
		{8, 3, 0, -1, 0},
		{8, 3, 3, -1, 0},
		{15, 3, 3, -1, 7},
		{8, 0, 3, -1, 7},
		{2, 0, 1, -1, 1},
		{1, 0, 0, -1, 0},
		{3, 1, 1, -1, 1},
		{5, 1, 2, -1, 3},
	} {
		w := begin(t, c.frames, 0)
		l := w.make(0, c.from)
		w.insert(l, of(1, 0, 8192), of(2, 0, behind+3*8192))
		o, is := w.change(l, c.to)
		if is != (c.first >= 0) || is && o.x.Base() != uint64(8192*c.first) || w.f.Free() != c.free {
			t.Fatal(c, is, o.x.Base(), w.f.Free())
		}
		w.check(c)
	}
}

// Of each size and grade: the old one stays as it was, and goes on.
func TestChangeWithNoRoom(t *testing.T) {
	r := rand.New(rand.NewSource(5))
	each(func(size, from int) {
		for to := range 4 {
			n := rows[size][from]
			w := begin(t, n+rows[size][to]-1, 3)
			l := w.make(size, from)
			w.fill(r, l, len(l.at))
			for _, e := range l.list()[:1] {
				w.lock(l, e.Va)
			}
			for range 3 {
				if o, is := w.change(l, to); is || o != l {
					t.Fatal(size, from, to)
				}
				w.check(size, from, to)
			}
			w.fill(r, l, 2)
			w.check(size, from, to, "goes on")
			w.drop(l)
			w.check(size, from, to, "dropped")
		}
	})
}

// As many frames are free as are wanted, but they don't stand in one row.
func TestChangeWithNoRow(t *testing.T) {
	w := begin(t, 10, 0)
	w.take(0, 2, 5, 6, 8)
	l := w.make(0, 0)
	w.insert(l, of(1, 0, 8192))
	if _, is := w.change(l, 2); is || w.f.Free() != 4 {
		t.Fatal(w.f.Free())
	}
	w.check("four")
	if o, is := w.change(l, 1); !is || o.x.Base() != 3*8192 {
		t.Fatal(o.x.Base())
	}
	w.check("two")
}

func TestChangeWrong(t *testing.T) {
	for size := range bytes {
		for _, n := range []int{9, 1} {
			w := begin(t, n, 2)
			l := w.make(size, 0)
			w.insert(l, of(1, size, 0), of(2, size, behind))
			for _, grade := range unknown {
				if x, n, e := Change(w.m, w.f, l.x, size, grade); x != nil || n != 0 || e != api.ErrArg {
					t.Fatal(size, grade, x, n, e)
				}
			}
			for _, none := range unknown {
				for _, grade := range append(unknown, 0, 1, 2, 3) {
					if x, n, e := Change(w.m, w.f, l.x, none, grade); x != nil || n != 0 || e != api.ErrArg {
						t.Fatal(none, grade, x, n, e)
					}
				}
			}
			w.check(size, n)
			w.drop(l)
			w.check(size, n, "dropped")
		}
	}
}

func TestDropEach(t *testing.T) {
	r := rand.New(rand.NewSource(6))
	each(func(size, grade int) {
		for _, n := range amounts(count(size, grade)) {
			w := begin(t, 20, 4)
			w.take(0, 3)
			ahead, l, last := w.make(3, 0), w.make(size, grade), w.make(0, 0)
			w.fill(r, ahead, 1)
			w.fill(r, l, n)
			w.fill(r, last, 100)
			w.drop(l)
			w.check(size, grade, n)
			w.drop(last)
			w.drop(ahead)
			w.check(size, grade, n, "all")
			if w.f.Free() != 18 {
				t.Fatal(w.f.Free())
			}
		}
	})
}

// Also what stands behind the last place in the last frame is 0 then.
func TestDropClearsBehindLastPlace(t *testing.T) {
	for _, c := range []struct{ size, grade, places int }{{3, 0, 1}, {2, 0, 8}, {1, 0, 64}, {1, 2, 256}, {3, 3, 8}} {
		w := begin(t, 2, 0)
		l := w.make(c.size, c.grade)
		for at := uint64(16 * c.places); at < 8192; at += 8 {
			if u, _ := w.m.Word(at); u != odd+at/8 {
				t.Fatalf("%v: at %#x stands %x", c, at, u)
			}
		}
		must(t, Drop(w.m, w.f, l.x, c.size))
		for at := uint64(0); at < 2*8192; at += 8 {
			if u, _ := w.m.Word(at); at < 8192 && u != 0 || at >= 8192 && u != odd+at/8 {
				t.Fatalf("%v: at %#x stands %x", c, at, u)
			}
		}
	}
}

func TestDropBehindChange(t *testing.T) {
	r := rand.New(rand.NewSource(7))
	each(func(size, from int) {
		for to := range 4 {
			w := begin(t, 16, 0)
			l := w.make(size, from)
			w.fill(r, l, 50)
			o, is := w.change(l, to)
			w.fill(r, o, 50)
			w.drop(o)
			w.check(size, from, to, is)
			if w.f.Free() != 16 {
				t.Fatal(size, from, to, w.f.Free())
			}
		}
	})
}

// Behind a Change that failed the old one is dropped as it would have been.
func TestDropBehindFailedChange(t *testing.T) {
	w := begin(t, 5, 0)
	l := w.make(0, 1)
	w.insert(l, of(4, 0, 8192))
	if _, is := w.change(l, 2); is {
		t.Fatal("in three frames")
	}
	if x, n, e := Change(w.m, w.f, l.x, 0, 4); x != nil || n != 0 || e != api.ErrArg {
		t.Fatal(x, n, e)
	}
	w.drop(l)
	w.check("dropped")
	if w.f.Free() != 5 {
		t.Fatal(w.f.Free())
	}
}

// By R2 nothing is changed beside an error, though the chapter allows neither of these.
func TestDropRefused(t *testing.T) {
	w := begin(t, 3, 0)
	l := w.make(1, 0)
	w.insert(l, of(4, 1, 65536))
	for _, size := range unknown {
		if e := Drop(w.m, w.f, l.x, size); e == api.OK {
			t.Fatal(size)
		}
	}
	w.check("no size")
	w.drop(l)
	must(t, w.m.PutWord(0, 7))
	w.words[0] = 7
	if e := Drop(w.m, w.f, l.x, 1); e == api.OK {
		t.Fatal("twice")
	}
	w.check("twice")
}

// P13.3

// Up, from each grade to each that is not less, all entries stay.
func TestChangeUpKeepsAll(t *testing.T) {
	r := rand.New(rand.NewSource(8))
	each(func(size, from int) {
		for to := from; to < 4; to++ {
			w := begin(t, 16, 0)
			l := w.make(size, from)
			w.fill(r, l, 3*len(l.at))
			x, n, e := Change(w.m, w.f, l.x, size, to)
			must(t, e)
			old, now := l.list(), x.List()
			if n != len(old) || len(now) != n || x.Locked() != x.Len()-n {
				t.Fatal(size, from, to, n, len(old), len(now))
			}
			for _, e := range old {
				if got, is := x.Find(e.Va, e.Ctx); !is || got != e || !slices.Contains(now, e) {
					t.Fatal(size, from, to, e, got)
				}
			}
		}
	})
}

// Up by one grade at a time, and down again: of entries that have a place each in the least grade none is lost.
func TestChangeUpAndDown(t *testing.T) {
	for size, n := range bytes {
		w := begin(t, 20, 0)
		l := w.make(size, 0)
		for i := range l.at {
			w.insert(l, of(i+1, size, (uint64(i)*uint64(len(l.at)+1))*n))
		}
		for _, to := range []int{1, 2, 3, 2, 1, 0, 3, 0, 0} {
			o, is := w.change(l, to)
			if !is || len(o.x.List()) != least[size] {
				t.Fatal(size, to, is, len(o.x.List()))
			}
			l = o
			w.check(size, to)
		}
		w.drop(l)
		w.check(size)
	}
}

// Rows of all calls, with the frames sometimes short; behind all Drops all frames are free that were.
func TestRowsOfAll(t *testing.T) {
	failed, changed := 0, 0
	for seed := range int64(8) {
		r := rand.New(rand.NewSource(seed))
		w := begin(t, 6+r.Intn(14), r.Intn(8))
		w.take(r.Intn(len(w.taken)), r.Intn(len(w.taken)))
		free := w.f.Free()
		for step := range 120 {
			if len(w.tsbs) == 0 || r.Intn(4) == 0 {
				w.make(r.Intn(4)*r.Intn(2), r.Intn(4))
			} else if l := w.tsbs[r.Intn(len(w.tsbs))]; r.Intn(2) == 0 {
				w.fill(r, l, r.Intn(len(l.at)+2))
				w.lock(l, some(r, l.size).Va)
			} else if r.Intn(3) > 0 {
				if _, is := w.change(l, r.Intn(4)); is {
					changed++
				} else {
					failed++
				}
			} else {
				w.drop(l)
			}
			w.check(seed, step)
		}
		for len(w.tsbs) > 0 {
			w.drop(w.tsbs[r.Intn(len(w.tsbs))])
		}
		w.check(seed)
		if w.f.Free() != free {
			t.Fatal(seed, w.f.Free(), free)
		}
	}
	if changed < 50 || failed < 50 {
		t.Fatal("changed", changed, "failed", failed)
	}
}

// Rules

// A space's frames may be given out beside TSBs, by the same frames.
func TestBesideOtherFrames(t *testing.T) {
	w := begin(t, 24, 0)
	l := w.make(0, 1)
	for _, size := range []int{0, 1} {
		n := []int{1, 8}[size]
		first, e := w.f.Take(size)
		if must(t, e); first != []int{2, 8}[size] {
			t.Fatal(first)
		}
		for i := range n {
			w.taken[first+i] = true
		}
	}
	l, _ = w.change(l, 2)
	if w.check("beside"); l.x.Base() != 3*8192 {
		t.Fatal(l.x.Base())
	}
	l, _ = w.change(l, 3)
	if w.check("behind"); l.x.Base() != 16*8192 {
		t.Fatal(l.x.Base())
	}
	w.drop(l)
	w.check("dropped")
}

// Nothing is kept beside the memory and the frames that are handed in.
func TestTwoWorlds(t *testing.T) {
	a, b := begin(t, 4, 0), begin(t, 4, 2)
	l, o := a.make(0, 1), b.make(0, 0)
	a.insert(l, of(1, 0, 8192))
	b.insert(o, of(2, 0, 600*8192))
	l, _ = a.change(l, 0)
	a.check("a")
	b.check("b")
	o, _ = b.change(o, 1)
	a.drop(l)
	a.check("a", 2)
	b.check("b", 2)
	b.drop(o)
	b.check("b", 3)
}

func TestEachTimeAlike(t *testing.T) {
	var told [][]uint64
	for range 3 {
		r := rand.New(rand.NewSource(9))
		w := begin(t, 12, 0)
		l := w.make(0, 2)
		w.fill(r, l, 3000)
		l, _ = w.change(l, 0)
		l, _ = w.change(l, 3)
		var all []uint64
		for at := uint64(0); at < w.m.Size(); at += 8 {
			u, _ := w.m.Word(at)
			all = append(all, u)
		}
		if told = append(told, all); !slices.Equal(told[0], all) {
			t.Fatal("else")
		}
	}
}

func TestExamples(t *testing.T) {
	if Frames(0, 3) != 8 || Frames(3, 0) != 1 {
		t.Fatal(Frames(0, 3), Frames(3, 0))
	}
}
