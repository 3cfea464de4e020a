package call

import (
	"math"
	"math/rand"
	"slices"
	"testing"

	"lookaside/api"
)

const most = 8 // the greatest number of processors

// ends are ints that are no processor, no kind and no number of a call of the tests.
var ends = []int{-1, -2, -3, -7, -8, -9, -64, -1 << 31, -1 << 32, -1<<32 + 1, -1 << 62, math.MinInt, math.MinInt + 1, 1 << 31, 1 << 32, 1<<32 + 1, 1 << 62, 1<<62 + 1, math.MaxInt - 1, math.MaxInt}

// noKinds are no kinds of calls.
var noKinds = append([]int{2, 3, 4, 8, 255, 256, 257}, ends...)

// contexts are contexts' numbers as the tests take them: the chapter names no least and no greatest one.
var contexts = []int{0, 1, 5, 6, 8190, 8191, 8192, -1, 1 << 40, math.MaxInt, math.MinInt}

// addresses are addresses as the tests take them, those in the hole too.
var addresses = []uint64{0, 1, 0x2000, 0x402005, 1<<43 - 1, 1 << 43, 1<<63 - 1, 1 << 63, math.MaxUint64 - 1, math.MaxUint64}

// noProcessors are no processors of n.
func noProcessors(n int) []int { return append([]int{n, n + 1, n + 2, 2*n + 1, 99}, ends...) }

// sent is a call as the tests keep it, with the processors at which it waits.
type sent struct {
	m  Msg
	at []int
}

// plain is calls as a list of all that were sent: what the tests hold the package against.
type plain struct {
	cpus int
	all  []sent
}

func (p *plain) is(cpu int) bool { return cpu >= 0 && cpu < p.cpus }

func (p *plain) send(m Msg, to []int) (int, api.Errno) {
	bad := m.Kind < 0 || m.Kind > 1 || m.Kind == 1 && m.Va != 0
	if bad {
		return 0, api.ErrArg
	}
	for _, cpu := range to {
		if !p.is(cpu) {
			return 0, api.ErrRange
		}
	}
	for i, cpu := range to {
		if slices.Contains(to[:i], cpu) {
			return 0, api.ErrExist
		}
	}
	p.all = append(p.all, sent{m, slices.Clone(to)})
	return len(p.all) - 1, api.OK
}

func (p *plain) peek(cpu int) (Msg, int, bool) {
	for id, s := range p.all {
		if slices.Contains(s.at, cpu) {
			return s.m, id, true
		}
	}
	return Msg{}, 0, false
}

func (p *plain) take(cpu int) (Msg, int, bool) {
	m, id, is := p.peek(cpu)
	if is {
		at := p.all[id].at
		i := slices.Index(at, cpu)
		p.all[id].at = slices.Concat(at[:i], at[i+1:])
	}
	return m, id, is
}

func (p *plain) left(id int) int {
	if id < 0 || id >= len(p.all) {
		return 0
	}
	return len(p.all[id].at)
}

func (p *plain) waiting(cpu int) int {
	n := 0
	for _, s := range p.all {
		if slices.Contains(s.at, cpu) {
			n++
		}
	}
	return n
}

func (p *plain) idle() bool {
	return !slices.ContainsFunc(p.all, func(s sent) bool { return len(s.at) > 0 })
}

func (p *plain) others(cpu int) []int {
	var l []int
	for other := 0; other < p.cpus; other++ {
		if other != cpu {
			l = append(l, other)
		}
	}
	return l
}

// check asserts that calls are as they must be, by all calls that tell of them.
func check(t *testing.T, c *Calls, want *plain, said ...any) {
	t.Helper()
	quick(t, c, want, said...)
	for _, cpu := range noProcessors(want.cpus) {
		if m, id, is := c.Peek(cpu); m != (Msg{}) || id != 0 || is || c.Waiting(cpu) != 0 {
			t.Fatal(said, "Peek", cpu, m, id, is, "Waiting", c.Waiting(cpu), "where there is no processor")
		}
		if got := c.Others(cpu); !slices.Equal(got, want.others(-1)) {
			t.Fatal(said, "Others", cpu, got, "want all")
		}
	}
	for _, id := range ends {
		if got := c.Left(id); got != 0 {
			t.Fatal(said, "Left", id, got, "of no call")
		}
	}
}

// quick asserts what calls tell when they are asked of processors and calls that there are, and of the next one.
func quick(t *testing.T, c *Calls, want *plain, said ...any) {
	t.Helper()
	if c.Cpus() != want.cpus || c.Idle() != want.idle() {
		t.Fatal(said, "Cpus", c.Cpus(), "Idle", c.Idle(), "want", want.cpus, want.idle())
	}
	for cpu := range want.cpus {
		m, id, is := c.Peek(cpu)
		if wantM, wantID, wantIs := want.peek(cpu); m != wantM || id != wantID || is != wantIs {
			t.Fatal(said, "Peek", cpu, m, id, is, "want", wantM, wantID, wantIs)
		}
		if got := c.Waiting(cpu); got != want.waiting(cpu) {
			t.Fatal(said, "Waiting", cpu, got, "want", want.waiting(cpu))
		}
		if got := c.Others(cpu); !slices.Equal(got, want.others(cpu)) {
			t.Fatal(said, "Others", cpu, got, "want", want.others(cpu))
		}
	}
	for id := -2; id < len(want.all)+3; id++ {
		if got := c.Left(id); got != want.left(id) {
			t.Fatal(said, "Left", id, got, "want", want.left(id))
		}
	}
}

// send sends a call to both, and asserts that both tell the same.
func send(t *testing.T, c *Calls, want *plain, m Msg, to []int, said ...any) {
	t.Helper()
	id, e := c.Send(m, to)
	if wantID, wantErrno := want.send(m, to); id != wantID || e != wantErrno {
		t.Fatal(said, "Send", m, to, id, e, "want", wantID, wantErrno)
	}
}

// take takes a call from both, and asserts that both tell the same, and what Peek told ahead.
func take(t *testing.T, c *Calls, want *plain, cpu int, said ...any) {
	t.Helper()
	peekM, peekID, peekIs := c.Peek(cpu)
	m, id, is := c.Take(cpu)
	if m != peekM || id != peekID || is != peekIs {
		t.Fatal(said, "Take", cpu, m, id, is, "Peek told", peekM, peekID, peekIs)
	}
	if wantM, wantID, wantIs := want.take(cpu); m != wantM || id != wantID || is != wantIs {
		t.Fatal(said, "Take", cpu, m, id, is, "want", wantM, wantID, wantIs)
	}
}

// page is a call of an address, one that its number tells.
func page(i int) Msg { return Msg{Kind: Page, Ctx: 1 + i, Va: uint64(i) << 13} }

// fresh is calls for so many processors, and what the tests hold them against.
func fresh(cpus int) (*Calls, *plain) { return New(cpus), &plain{cpus: cpus} }

// rows are all rows of different processors out of n, none among them.
func rows(n int) [][]int {
	all := [][]int{nil}
	for i := 0; i < len(all); i++ {
		for cpu := range n {
			if !slices.Contains(all[i], cpu) {
				all = append(all, append(slices.Clone(all[i]), cpu))
			}
		}
	}
	return all
}

// lists are all lists of at most so many of some ints.
func lists(of []int, long int) [][]int {
	all := [][]int{nil}
	for i := 0; len(all[i]) < long; i++ {
		for _, x := range of {
			all = append(all, append(slices.Clone(all[i]), x))
		}
	}
	return all
}

// P15.1

func TestNew(t *testing.T) {
	for _, c := range []struct{ n, want int }{
		{1, 1}, {2, 2}, {3, 3}, {4, 4}, {5, 5}, {6, 6}, {7, 7}, {8, 8},
		{9, 8}, {10, 8}, {16, 8}, {64, 8}, {99, 8}, {256, 8}, {257, 8}, {1 << 31, 8}, {1 << 32, 8}, {1<<32 + 1, 8}, {1 << 62, 8}, {math.MaxInt - 1, 8}, {math.MaxInt, 8},
		{0, 1}, {-1, 1}, {-2, 1}, {-8, 1}, {-256, 1}, {-1 << 32, 1}, {-1<<32 + 5, 1}, {-1 << 62, 1}, {math.MinInt + 1, 1}, {math.MinInt, 1},
	} {
		calls := New(c.n)
		if calls.Cpus() != c.want || !calls.Idle() {
			t.Error(c.n, "Cpus", calls.Cpus(), "Idle", calls.Idle(), "want", c.want)
		}
		check(t, calls, &plain{cpus: c.want}, "New", c.n)
	}
}

// TestTwoCalls asserts that what is done to calls is done to no others, and that each begin with the number 0.
func TestTwoCalls(t *testing.T) {
	c, want := fresh(2)
	other, otherWant := fresh(2)
	send(t, c, want, page(1), []int{0, 1})
	check(t, other, otherWant, "the other ones")
	send(t, other, otherWant, page(2), []int{1})
	take(t, c, want, 1)
	check(t, c, want)
	check(t, other, otherWant)
}

func TestKinds(t *testing.T) {
	if Page != 0 || Context != 1 {
		t.Error(Page, Context)
	}
}

// TestSendEachMsg sends each kind of each context and address, alone.
func TestSendEachMsg(t *testing.T) {
	for _, ctx := range contexts {
		for _, va := range addresses {
			for _, kind := range append([]int{Page, Context}, noKinds...) {
				m := Msg{Kind: kind, Ctx: ctx, Va: va}
				wantErrno := api.OK
				if kind != Page && !(kind == Context && va == 0) {
					wantErrno = api.ErrArg
				}
				c := New(2)
				if id, e := c.Send(m, []int{1}); id != 0 || e != wantErrno {
					t.Fatal(m, id, e, "want", wantErrno)
				}
				if is := c.Waiting(1) == 1; is != (wantErrno == api.OK) || c.Waiting(0) != 0 || c.Idle() == is {
					t.Fatal(m, "waits", is, c.Waiting(0), c.Idle())
				}
				if got, id, is := c.Take(1); is && got != m || !is && got != (Msg{}) || id != 0 || is != (wantErrno == api.OK) {
					t.Fatal(m, "taken", got, id, is)
				}
			}
		}
	}
}

// TestSendEachRow sends to each row of different processors, behind one that waits at all of them.
func TestSendEachRow(t *testing.T) {
	for cpus := 1; cpus <= 4; cpus++ {
		for _, to := range rows(cpus) {
			for _, m := range []Msg{page(7), {Kind: Context, Ctx: 6}} {
				c, want := fresh(cpus)
				send(t, c, want, page(1), want.others(-1))
				send(t, c, want, m, to)
				check(t, c, want, cpus, to)
				if n := c.Left(1); n != len(to) {
					t.Fatal(cpus, to, "Left", n)
				}
				send(t, c, want, page(2), to)
				check(t, c, want, cpus, to)
			}
		}
	}
}

// TestSendEightInAnyRow sends to some or all of eight processors, in any row.
func TestSendEightInAnyRow(t *testing.T) {
	r := rand.New(rand.NewSource(1))
	for i := range 500 {
		to := r.Perm(most)[:r.Intn(most+1)]
		c, want := fresh(most)
		send(t, c, want, page(i), to)
		check(t, c, want, to)
		for _, cpu := range r.Perm(most) {
			take(t, c, want, cpu, to)
			quick(t, c, want, to, "taken", cpu)
		}
		if !c.Idle() {
			t.Fatal(to, "not idle")
		}
	}
}

// TestSendNone sends calls for none: each is over at once, and has its number.
func TestSendNone(t *testing.T) {
	for _, none := range [][]int{nil, {}, make([]int, 0, 4)} {
		c, want := fresh(3)
		for i := range 5 {
			if id, e := c.Send(page(i), none); id != i || e != api.OK || c.Left(id) != 0 || !c.Idle() {
				t.Fatal(i, id, e, c.Left(id), c.Idle())
			}
			want.send(page(i), nil)
			check(t, c, want, "none", i)
		}
		send(t, c, want, page(9), []int{2})
		send(t, c, want, page(10), none)
		check(t, c, want)
		if m, id, is := c.Take(2); m != page(9) || id != 5 || !is {
			t.Fatal(m, id, is)
		}
	}
}

// TestSendErrors holds which error is told where several hold, in all answers written out.
func TestSendErrors(t *testing.T) {
	good, bad, badVa := page(1), Msg{Kind: 2}, Msg{Kind: Context, Ctx: 1, Va: 8192}
	for _, c := range []struct {
		m    Msg
		to   []int
		want api.Errno
	}{
		{good, []int{0, 1, 2}, api.OK}, {good, nil, api.OK},
		{bad, nil, api.ErrArg}, {bad, []int{0}, api.ErrArg}, {bad, []int{3}, api.ErrArg}, {bad, []int{0, 0}, api.ErrArg}, {bad, []int{0, 0, 3}, api.ErrArg},
		{badVa, nil, api.ErrArg}, {badVa, []int{0}, api.ErrArg}, {badVa, []int{-1}, api.ErrArg}, {badVa, []int{1, 1}, api.ErrArg}, {badVa, []int{3, 3}, api.ErrArg},
		{good, []int{3}, api.ErrRange}, {good, []int{-1}, api.ErrRange}, {good, []int{0, 3}, api.ErrRange}, {good, []int{3, 0}, api.ErrRange},
		{good, []int{3, 3}, api.ErrRange}, {good, []int{-1, -1}, api.ErrRange}, {good, []int{0, 0, 3}, api.ErrRange}, {good, []int{3, 0, 0}, api.ErrRange}, {good, []int{0, 3, 0}, api.ErrRange}, {good, []int{0, 1, 2, 0, 1, 2, math.MaxInt}, api.ErrRange},
		{good, []int{0, 0}, api.ErrExist}, {good, []int{2, 2}, api.ErrExist}, {good, []int{0, 1, 0}, api.ErrExist}, {good, []int{0, 1, 1}, api.ErrExist}, {good, []int{0, 1, 2, 0}, api.ErrExist}, {good, []int{2, 1, 0, 2}, api.ErrExist}, {good, []int{1, 1, 1}, api.ErrExist},
	} {
		calls := New(3)
		if id, e := calls.Send(c.m, c.to); id != 0 || e != c.want {
			t.Error(c.m, c.to, id, e, "want", c.want)
		}
	}
}

// TestSendEachList sends each call to each short list of processors and of others: a call that is refused is not sent, and takes no number.
func TestSendEachList(t *testing.T) {
	msgs := []Msg{page(7), {Kind: Context, Ctx: 6}, {Kind: Context, Ctx: 6, Va: 1}, {Kind: 2}, {Kind: -1, Ctx: 6}}
	for cpus := 1; cpus <= 3; cpus++ {
		of := []int{-1, cpus, math.MinInt, math.MaxInt}
		for cpu := range cpus {
			of = append(of, cpu)
		}
		for _, to := range lists(of, 4) {
			for _, m := range msgs {
				c, want := fresh(cpus)
				send(t, c, want, page(1), []int{cpus - 1})
				send(t, c, want, m, to, cpus)
				quick(t, c, want, cpus, m, to)
				send(t, c, want, page(2), []int{0}, "behind", m, to)
				quick(t, c, want, cpus, m, to)
			}
		}
	}
}

// TestSendNoProcessor sends to each int that is no processor, ahead of those that are and behind them.
func TestSendNoProcessor(t *testing.T) {
	for cpus := 1; cpus <= most; cpus++ {
		c, want := fresh(cpus)
		send(t, c, want, page(1), want.others(-1))
		for _, cpu := range noProcessors(cpus) {
			for _, to := range [][]int{{cpu}, append([]int{cpu}, want.others(-1)...), append(want.others(-1), cpu), {0, cpu, 0}} {
				if id, e := c.Send(page(2), to); id != 0 || e != api.ErrRange {
					t.Fatal(cpus, to, id, e)
				}
			}
			quick(t, c, want, cpus, cpu)
		}
		check(t, c, want, cpus)
	}
}

// TestSendTwice sends to each processor twice, side by side and apart.
func TestSendTwice(t *testing.T) {
	for cpus := 1; cpus <= most; cpus++ {
		c, want := fresh(cpus)
		for cpu := range cpus {
			others := want.others(cpu)
			for i := 0; i <= len(others); i++ {
				for j := i; j <= len(others); j++ {
					to := slices.Concat(others[:i], []int{cpu}, others[i:j], []int{cpu}, others[j:])
					if id, e := c.Send(page(1), to); id != 0 || e != api.ErrExist {
						t.Fatal(cpus, to, id, e)
					}
				}
			}
		}
		long := slices.Repeat(want.others(-1), 1000)
		if id, e := c.Send(page(1), long); id != 0 || e != api.ErrExist {
			t.Fatal(cpus, id, e)
		}
		if id, e := c.Send(page(1), append(long, cpus)); id != 0 || e != api.ErrRange {
			t.Fatal(cpus, id, e)
		}
		check(t, c, want, cpus)
	}
}

// TestSendKeepsNoList changes lists behind Send, and looks at them and at their spare room.
func TestSendKeepsNoList(t *testing.T) {
	for _, to := range [][]int{{}, {0}, {2, 0}, {1, 2, 0}, {0, 0}, {5}} {
		room := append(slices.Clone(to), 7, 7, 7)
		handed := room[:len(to)]
		c, want := fresh(3)
		send(t, c, want, page(1), handed)
		if !slices.Equal(handed, to) || !slices.Equal(room[len(to):], []int{7, 7, 7}) {
			t.Error(to, "changed", room)
		}
		for i := range room {
			room[i] = 1
		}
		check(t, c, want, to)
		for cpu := range 3 {
			take(t, c, want, cpu, to)
		}
		check(t, c, want, to)
	}
}

// P15.2

// TestByHand goes through a row of calls with all answers written out.
func TestByHand(t *testing.T) {
	c := New(3)
	a, b, d := Msg{Kind: Page, Ctx: 5, Va: 0x2000}, Msg{Kind: Context, Ctx: 6}, Msg{Kind: Page, Ctx: -7, Va: 1 << 63}
	told := func(what string, m Msg, id int, is bool, wantM Msg, wantID int, wantIs bool) {
		t.Helper()
		if m != wantM || id != wantID || is != wantIs {
			t.Error(what, m, id, is, "want", wantM, wantID, wantIs)
		}
	}
	holds := func(idle bool, waiting [3]int, left ...int) {
		t.Helper()
		if c.Idle() != idle || [3]int{c.Waiting(0), c.Waiting(1), c.Waiting(2)} != waiting {
			t.Error("Idle", c.Idle(), "Waiting", c.Waiting(0), c.Waiting(1), c.Waiting(2), "want", idle, waiting)
		}
		for id, n := range left {
			if c.Left(id) != n {
				t.Error("Left", id, c.Left(id), "want", n)
			}
		}
	}
	is := func(what string, id int, e api.Errno, wantID int, wantErrno api.Errno) {
		t.Helper()
		if id != wantID || e != wantErrno {
			t.Error(what, id, e, "want", wantID, wantErrno)
		}
	}
	holds(true, [3]int{}, 0, 0)
	id, e := c.Send(a, []int{2, 0})
	is("a", id, e, 0, api.OK)
	holds(false, [3]int{1, 0, 1}, 2, 0)
	id, e = c.Send(a, []int{2, 2})
	is("refused", id, e, 0, api.ErrExist)
	id, e = c.Send(b, []int{0, 1, 2})
	is("b", id, e, 1, api.OK)
	holds(false, [3]int{2, 1, 2}, 2, 3, 0)
	id, e = c.Send(d, nil)
	is("for none", id, e, 2, api.OK)
	id, e = c.Send(d, []int{0})
	is("d", id, e, 3, api.OK)
	holds(false, [3]int{3, 1, 2}, 2, 3, 0, 1, 0)
	m, id, ok := c.Take(0)
	told("Take 0", m, id, ok, a, 0, true)
	holds(false, [3]int{2, 1, 2}, 1, 3, 0, 1, 0)
	m, id, ok = c.Peek(2)
	told("Peek 2", m, id, ok, a, 0, true)
	m, id, ok = c.Take(1)
	told("Take 1", m, id, ok, b, 1, true)
	m, id, ok = c.Take(1)
	told("Take 1 again", m, id, ok, Msg{}, 0, false)
	holds(false, [3]int{2, 0, 2}, 1, 2, 0, 1, 0)
	m, id, ok = c.Take(0)
	told("Take 0", m, id, ok, b, 1, true)
	m, id, ok = c.Take(0)
	told("Take 0", m, id, ok, d, 3, true)
	holds(false, [3]int{0, 0, 2}, 1, 1, 0, 0, 0)
	m, id, ok = c.Take(2)
	told("Take 2", m, id, ok, a, 0, true)
	holds(false, [3]int{0, 0, 1}, 0, 1, 0, 0, 0)
	m, id, ok = c.Take(2)
	told("Take 2", m, id, ok, b, 1, true)
	holds(true, [3]int{}, 0, 0, 0, 0, 0)
	id, e = c.Send(b, []int{1})
	is("behind all", id, e, 4, api.OK)
	holds(false, [3]int{0, 1, 0}, 0, 0, 0, 0, 1, 0)
}

func TestExamples(t *testing.T) {
	c := New(2)
	id, e := c.Send(page(1), []int{0, 1})
	if id != 0 || e != api.OK || c.Left(0) != 2 {
		t.Error(id, e, c.Left(0))
	}
	if m, id, is := c.Take(1); m != page(1) || id != 0 || !is || c.Left(0) != 1 {
		t.Error(m, id, is, c.Left(0))
	}
}

// TestFields takes calls of all contexts and addresses: all of their fields are told.
func TestFields(t *testing.T) {
	c := New(1)
	var all []Msg
	for _, ctx := range contexts {
		all = append(all, Msg{Kind: Context, Ctx: ctx})
		for _, va := range addresses {
			all = append(all, Msg{Kind: Page, Ctx: ctx, Va: va})
		}
	}
	for i, m := range all {
		if id, e := c.Send(m, []int{0}); id != i || e != api.OK {
			t.Fatal(m, id, e)
		}
	}
	for i, want := range all {
		if m, id, is := c.Peek(0); m != want || id != i || !is {
			t.Fatal("Peek", m, id, is, "want", want, i)
		}
		if m, id, is := c.Take(0); m != want || id != i || !is {
			t.Fatal("Take", m, id, is, "want", want, i)
		}
	}
}

// TestSameTwice sends one call twice: each waits, and has its own number.
func TestSameTwice(t *testing.T) {
	for _, m := range []Msg{page(7), {Kind: Context, Ctx: 6}, {}} {
		c, want := fresh(2)
		send(t, c, want, m, []int{0, 1})
		send(t, c, want, m, []int{1, 0})
		check(t, c, want, m)
		for _, cpu := range []int{1, 0, 0, 1} {
			take(t, c, want, cpu)
			check(t, c, want, m)
		}
	}
}

// TestTheZeroMsg tells a call that is the zero one, the number 0, from none.
func TestTheZeroMsg(t *testing.T) {
	c := New(1)
	c.Send(Msg{}, []int{0})
	if m, id, is := c.Peek(0); m != (Msg{}) || id != 0 || !is {
		t.Error("Peek", m, id, is)
	}
	if m, id, is := c.Take(0); m != (Msg{}) || id != 0 || !is {
		t.Error("Take", m, id, is)
	}
	if m, id, is := c.Take(0); m != (Msg{}) || id != 0 || is {
		t.Error("Take of none", m, id, is)
	}
}

// TestPeekChangesNothing peeks many times ahead of each Take.
func TestPeekChangesNothing(t *testing.T) {
	c, want := fresh(3)
	for i := range 9 {
		send(t, c, want, page(i), []int{i % 3, (i + 1) % 3})
	}
	for i := range 21 {
		for range 5 {
			check(t, c, want, i)
		}
		take(t, c, want, i%3, i)
	}
	if !c.Idle() {
		t.Error("not idle")
	}
}

// TestTakeNoProcessor takes at each int that is no processor, while calls wait everywhere.
func TestTakeNoProcessor(t *testing.T) {
	for cpus := 1; cpus <= most; cpus++ {
		c, want := fresh(cpus)
		send(t, c, want, page(0), want.others(-1))
		send(t, c, want, Msg{Kind: Context, Ctx: 6}, want.others(-1))
		for _, cpu := range noProcessors(cpus) {
			if m, id, is := c.Take(cpu); m != (Msg{}) || id != 0 || is {
				t.Fatal(cpus, "Take", cpu, m, id, is)
			}
		}
		check(t, c, want, cpus)
	}
}

// TestTakeLeavesOthers takes a call at its processors one by one, in each row: it waits at the others.
func TestTakeLeavesOthers(t *testing.T) {
	for _, row := range rows(4) {
		c, want := fresh(4)
		send(t, c, want, page(1), []int{3, 1, 0, 2})
		send(t, c, want, page(2), []int{2, 3})
		for i, cpu := range row {
			take(t, c, want, cpu)
			check(t, c, want, row, i)
			if c.Left(0) != 4-i-1 {
				t.Fatal(row, i, "Left", c.Left(0))
			}
		}
	}
}

func TestOthers(t *testing.T) {
	for _, x := range []struct {
		cpus, cpu int
		want      []int
	}{
		{1, 0, nil}, {1, 1, []int{0}}, {1, -1, []int{0}},
		{2, 0, []int{1}}, {2, 1, []int{0}}, {2, 2, []int{0, 1}},
		{3, 0, []int{1, 2}}, {3, 1, []int{0, 2}}, {3, 2, []int{0, 1}}, {3, 3, []int{0, 1, 2}}, {3, math.MinInt, []int{0, 1, 2}}, {3, math.MaxInt, []int{0, 1, 2}},
		{8, 0, []int{1, 2, 3, 4, 5, 6, 7}}, {8, 3, []int{0, 1, 2, 4, 5, 6, 7}}, {8, 7, []int{0, 1, 2, 3, 4, 5, 6}}, {8, 8, []int{0, 1, 2, 3, 4, 5, 6, 7}}, {8, -1, []int{0, 1, 2, 3, 4, 5, 6, 7}},
	} {
		if got := New(x.cpus).Others(x.cpu); !slices.Equal(got, x.want) {
			t.Error(x.cpus, x.cpu, got, "want", x.want)
		}
	}
}

// TestOthersIsNew writes into what Others answered, and behind it.
func TestOthersIsNew(t *testing.T) {
	for cpus := 1; cpus <= most; cpus++ {
		c, want := fresh(cpus)
		send(t, c, want, page(1), c.Others(0))
		for cpu := -1; cpu <= cpus; cpu++ {
			list, again := c.Others(cpu), c.Others(cpu)
			for i := range list {
				list[i] = 9
			}
			_ = append(list, 7, 8, 9)
			if !slices.Equal(again, want.others(cpu)) {
				t.Error(cpus, cpu, "two answers share", again)
			}
			check(t, c, want, cpus, cpu)
		}
	}
}

// P15.3

// TestEachShortHistory does each row of a few things at two processors, and holds all answers behind each of them.
func TestEachShortHistory(t *testing.T) {
	const kinds, long = 8, 5
	total := 1
	for range long {
		total *= kinds
	}
	for code := range total {
		c, want := fresh(2)
		for i, rest := 0, code; i < long; i, rest = i+1, rest/kinds {
			switch rest % kinds {
			case 0:
				send(t, c, want, page(i), []int{0}, code)
			case 1:
				send(t, c, want, Msg{Kind: Context, Ctx: i}, []int{1}, code)
			case 2:
				send(t, c, want, page(i), []int{0, 1}, code)
			case 3:
				send(t, c, want, page(i), []int{1, 0}, code)
			case 4:
				send(t, c, want, page(i), nil, code)
			case 5:
				send(t, c, want, page(i), []int{1, 1}, code)
			case 6:
				take(t, c, want, 0, code)
			case 7:
				take(t, c, want, 1, code)
			}
			quick(t, c, want, code, i)
		}
	}
}

// TestRowAtEach takes many calls at each of eight processors, one processor far ahead of another: at each they come in the row in which they were sent.
func TestRowAtEach(t *testing.T) {
	r := rand.New(rand.NewSource(2))
	c := New(most)
	var sentTo [most][]int
	var msgs []Msg
	for i := range 400 {
		to := r.Perm(most)[:r.Intn(most+1)]
		m := page(r.Intn(50))
		if r.Intn(3) == 0 {
			m = Msg{Kind: Context, Ctx: r.Intn(50)}
		}
		if id, e := c.Send(m, to); id != i || e != api.OK {
			t.Fatal(i, id, e)
		}
		msgs = append(msgs, m)
		for _, cpu := range to {
			sentTo[cpu] = append(sentTo[cpu], i)
		}
	}
	for _, cpu := range r.Perm(most) {
		for _, want := range sentTo[cpu] {
			if m, id, is := c.Take(cpu); m != msgs[want] || id != want || !is {
				t.Fatal(cpu, m, id, is, "want", msgs[want], want)
			}
		}
		if m, id, is := c.Take(cpu); m != (Msg{}) || id != 0 || is {
			t.Fatal(cpu, m, id, is, "behind all")
		}
	}
	if !c.Idle() {
		t.Error("not idle")
	}
}

// anyMsg is a call, seldom one that may not be.
func anyMsg(r *rand.Rand) Msg {
	m := Msg{Kind: r.Intn(2), Ctx: contexts[r.Intn(len(contexts))]}
	if m.Kind == Page || r.Intn(10) == 0 {
		m.Va = addresses[r.Intn(len(addresses))]
	}
	if r.Intn(20) == 0 {
		m.Kind = noKinds[r.Intn(len(noKinds))]
	}
	return m
}

// anyTo is a row of processors, seldom with one that there is not or that stands in it already.
func anyTo(r *rand.Rand, cpus int) []int {
	to := r.Perm(cpus)[:r.Intn(cpus+1)]
	if no := noProcessors(cpus); r.Intn(15) == 0 {
		to = slices.Insert(to, r.Intn(len(to)+1), no[r.Intn(len(no))])
	}
	if len(to) > 0 && r.Intn(15) == 0 {
		to = slices.Insert(to, r.Intn(len(to)+1), to[r.Intn(len(to))])
	}
	return to
}

// TestAnyCalls does long rows of all things, with more of sends at times and more of takes at others.
func TestAnyCalls(t *testing.T) {
	for seed := range int64(40) {
		r := rand.New(rand.NewSource(seed))
		cpus := 1 + r.Intn(most)
		c, want := fresh(cpus)
		for i := range 300 {
			if sends := i/50%2 == 0; r.Intn(4) == 0 == sends {
				take(t, c, want, r.Intn(cpus+2)-1, seed, i)
			} else {
				send(t, c, want, anyMsg(r), anyTo(r, cpus), seed, i)
			}
			quick(t, c, want, seed, i)
		}
		check(t, c, want, seed)
	}
}

// TestTheSameEachTime does one row of things twice: the answers hang on nothing else.
func TestTheSameEachTime(t *testing.T) {
	run := func() []int {
		r := rand.New(rand.NewSource(3))
		c := New(5)
		var told []int
		for range 2000 {
			id, e := c.Send(anyMsg(r), anyTo(r, 5))
			m, taken, _ := c.Take(r.Intn(5))
			told = append(told, id, int(e), m.Kind, m.Ctx, int(m.Va), taken, c.Left(taken))
		}
		return told
	}
	if !slices.Equal(run(), run()) {
		t.Error("not the same")
	}
}

// TestManyCalls lets very many calls wait: none takes longer for that, and nothing of them is kept when they are over.
func TestManyCalls(t *testing.T) {
	const many = 300000
	c := New(most)
	all := []int{7, 6, 5, 4, 3, 2, 1, 0}
	for i := range many {
		if id, e := c.Send(page(i), all); id != i || e != api.OK {
			t.Fatal(i, id, e)
		}
	}
	for i := range many {
		if m, id, is := c.Take(3); m != page(i) || id != i || !is || c.Left(i) != most-1 || c.Left(many-1-i) < most-1 {
			t.Fatal(i, m, id, is, c.Left(i), c.Left(many-1-i))
		}
	}
	for cpu := range most {
		for c.Waiting(cpu) > 0 {
			c.Take(cpu)
		}
	}
	if !c.Idle() || c.Left(0) != 0 || c.Left(many-1) != 0 {
		t.Error("not over")
	}
	for cpu, row := range c.rows {
		if cap(row) != 0 {
			t.Error(cpu, "keeps", cap(row))
		}
	}
}

// TestKeepsNoMoreThanWaits sends and takes for long while few wait: the room does not grow.
func TestKeepsNoMoreThanWaits(t *testing.T) {
	c := New(1)
	c.Send(page(0), []int{0})
	c.Send(page(1), []int{0})
	for i := range 200000 {
		c.Send(page(i+2), []int{0})
		if m, id, is := c.Take(0); m != page(i) || id != i || !is {
			t.Fatal(i, m, id, is)
		}
	}
	if n := cap(c.rows[0]); n > 64 {
		t.Error("keeps", n)
	}
}
