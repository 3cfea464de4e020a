package ctx

import (
	"math"
	"math/rand"
	"slices"
	"testing"

	"lookaside/api"
)

const most = 8191 // the greatest number of numbers

// belowZero are no spaces.
var belowZero = []int{-1, -2, -3, -64, -most, -1 << 32, -1 << 62, math.MinInt + 1, math.MinInt}

// strangers are spaces that the tests give no number.
var strangers = []int{77, 8192, 1<<32 + 1, 1<<62 + 1, math.MaxInt - 2}

// names are spaces as the tests take them: any int from 0 on is one.
var names = []int{0, 3, math.MaxInt, 1 << 40, 64, 1, 8191, math.MaxInt - 1}

// noNumbers are no numbers of a pool of n.
func noNumbers(n int) []int {
	return []int{0, -1, -2, -n, -n - 1, n + 1, n + 2, 2*n + 1, most + 1, -1 << 32, 1 << 32, 1<<32 + 1, 1 << 62, -1 << 62, math.MinInt, math.MinInt + 1, math.MaxInt - 1, math.MaxInt}
}

// plain is a pool as a list of whose each number is (that of 0 is of no meaning, below 0: nobody's): what the tests hold the package against. Its hand goes on step by step.
type plain struct {
	owner        []int
	hand, rounds int
}

// empty is a plain pool of n free numbers.
func empty(n int) *plain { return &plain{owner: slices.Repeat([]int{-1}, n+1), hand: 1} }

func (p *plain) len() int { return len(p.owner) - 1 }

func (p *plain) free() int {
	free := 0
	for _, space := range p.owner[1:] {
		if space < 0 {
			free++
		}
	}
	return free
}

// of is a space's number, 0 if it has none.
func (p *plain) of(space int) int {
	for n := 1; n <= p.len(); n++ {
		if space >= 0 && p.owner[n] == space {
			return n
		}
	}
	return 0
}

func (p *plain) step() {
	if p.hand++; p.hand > p.len() {
		p.hand = 1
		p.rounds++
	}
}

// past makes a number a space's, and the hand go on behind it.
func (p *plain) past(n, space int) {
	for p.hand != n {
		p.step()
	}
	p.step()
	p.owner[n] = space
}

func (p *plain) take(space int) (int, api.Errno) {
	switch {
	case space < 0:
		return 0, api.ErrArg
	case p.of(space) > 0:
		return p.of(space), api.OK
	case p.free() == 0:
		return 0, api.ErrCtx
	}
	ahead := *p
	for ahead.owner[ahead.hand] >= 0 {
		ahead.step()
	}
	n := ahead.hand
	p.past(n, space)
	return n, api.OK
}

func (p *plain) victim(avoid []int) (int, int, api.Errno) {
	ahead := *p
	for range p.len() {
		if space := ahead.owner[ahead.hand]; space >= 0 && !slices.Contains(avoid, space) {
			return ahead.hand, space, api.OK
		}
		ahead.step()
	}
	return 0, 0, api.ErrCtx
}

func (p *plain) steal(n, space int) (int, api.Errno) {
	switch {
	case space < 0, n < 1, n > p.len():
		return 0, api.ErrArg
	case p.of(space) > 0:
		return 0, api.ErrExist
	case p.owner[n] < 0:
		return 0, api.ErrNone
	}
	old := p.owner[n]
	p.past(n, space)
	return old, api.OK
}

func (p *plain) give(space int) (int, api.Errno) {
	n := p.of(space)
	if n == 0 {
		return 0, api.ErrNone
	}
	p.owner[n] = -1
	return n, api.OK
}

// check asserts that a pool is as it must be, by all calls that tell of it; so no number is two spaces', and no space has two.
func check(t *testing.T, p *Pool, want *plain, said ...any) {
	t.Helper()
	quick(t, p, want, said...)
	for n := 1; n <= want.len(); n++ {
		space, is := want.owner[n], want.owner[n] >= 0
		if !is {
			space = 0
		}
		if s, was := p.Owner(n); s != space || was != is {
			t.Fatal(said, "Owner", n, s, was, "want", space, is)
		}
		if !is {
			continue
		}
		if got, was := p.Of(space); got != n || !was {
			t.Fatal(said, "Of", space, got, was, "want", n)
		}
	}
	for _, n := range noNumbers(want.len()) {
		if s, was := p.Owner(n); s != 0 || was {
			t.Fatal(said, "Owner", n, s, was, "of no number")
		}
	}
	for _, space := range slices.Concat(belowZero, strangers, names) {
		got, was := p.Of(space)
		if n := want.of(space); got != n || was != (n > 0) {
			t.Fatal(said, "Of", space, got, was, "want", n)
		}
	}
}

// quick asserts what a pool tells without being asked of a number or a space.
func quick(t *testing.T, p *Pool, want *plain, said ...any) {
	t.Helper()
	if p.Len() != want.len() || p.Free() != want.free() || p.Hand() != want.hand || p.Rounds() != want.rounds {
		t.Fatal(said, "Len", p.Len(), "Free", p.Free(), "Hand", p.Hand(), "Rounds", p.Rounds(), "want", want.len(), want.free(), want.hand, want.rounds)
	}
	if got := p.Owners(); !slices.Equal(got, want.owner[1:]) {
		t.Fatal(said, "Owners", got, "want", want.owner[1:])
	}
}

// told asserts what Take, Steal or Give answered.
func told(t *testing.T, got int, e api.Errno, want int, wantErrno api.Errno, said ...any) {
	t.Helper()
	if got != want || e != wantErrno {
		t.Fatal(said, "told", got, e, "want", want, wantErrno)
	}
}

// laid is a pool whose numbers are those spaces' (below 0: nobody's), and whose hand stands there.
func laid(t *testing.T, owners []int, hand int) (*Pool, *plain) {
	t.Helper()
	n := len(owners)
	p, filler := New(n), func(i int) int { return 1<<50 + i }
	for i := range n {
		got, e := p.Take(filler(i))
		told(t, got, e, i+1, api.OK, "lay", owners)
	}
	for i := range n {
		at := (hand-1+i)%n + 1
		space := owners[at-1]
		if space < 0 {
			space = filler(n + at)
		}
		old, e := p.Steal(at, space)
		told(t, old, e, filler(at-1), api.OK, "lay", owners)
	}
	for i, space := range owners {
		if space < 0 {
			got, e := p.Give(filler(n + i + 1))
			told(t, got, e, i+1, api.OK, "lay", owners)
		}
	}
	// One round is that of the takes, one that of the steals, wherever these began.
	want := &plain{owner: slices.Concat([]int{-1}, owners), hand: hand, rounds: 2}
	quick(t, p, want, "laid", owners, hand)
	return p, want
}

// layouts are all ways in which n numbers are free or one of n spaces' each.
func layouts(n int) [][]int {
	all := [][]int{{}}
	for range n {
		var more [][]int
		for _, owners := range all {
			more = append(more, append(slices.Clone(owners), -1))
			for _, space := range names[:n] {
				if !slices.Contains(owners, space) {
					more = append(more, append(slices.Clone(owners), space))
				}
			}
		}
		all = more
	}
	return all
}

// each does something with each layout of few numbers and each place of the hand.
func each(do func(owners []int, hand int)) {
	for n := 1; n <= 4; n++ {
		for _, owners := range layouts(n) {
			for hand := 1; hand <= n; hand++ {
				do(owners, hand)
			}
		}
	}
}

// full is a pool of n numbers, all of them taken: the number i is the space 100+i's.
func full(t *testing.T, n int) (*Pool, *plain) {
	t.Helper()
	p, want := New(n), empty(n)
	for i := 1; i <= n; i++ {
		got, e := p.Take(100 + i)
		told(t, got, e, i, api.OK, "full", n)
		want.take(100 + i)
	}
	return p, want
}

// P14.1

func TestNew(t *testing.T) {
	for _, c := range []struct{ n, want int }{
		{0, 0}, {1, 1}, {2, 2}, {3, 3}, {64, 64}, {most - 1, most - 1}, {most, most},
		{most + 1, most}, {most + 2, most}, {1 << 16, most}, {1 << 32, most}, {1<<32 + 1, most}, {1 << 62, most}, {math.MaxInt - 1, most}, {math.MaxInt, most},
		{-1, 0}, {-2, 0}, {-most, 0}, {-1 << 32, 0}, {-1<<32 + 5, 0}, {-1 << 62, 0}, {math.MinInt + 1, 0}, {math.MinInt, 0},
	} {
		p := New(c.n)
		if p.Len() != c.want || p.Free() != c.want || p.Hand() != 1 || p.Rounds() != 0 || len(p.Owners()) != c.want {
			t.Error(c.n, "Len", p.Len(), "Free", p.Free(), "Hand", p.Hand(), "Rounds", p.Rounds(), "Owners", len(p.Owners()))
		}
		check(t, p, empty(c.want), "New", c.n)
	}
}

// TestTwoPools asserts that what is done to a pool is done to no other one.
func TestTwoPools(t *testing.T) {
	p, other := New(2), New(2)
	n, e := p.Take(5)
	told(t, n, e, 1, api.OK)
	check(t, other, empty(2), "the other one")
}

func TestTellsTheSpaceZero(t *testing.T) {
	p, want := New(2), empty(2)
	if n, is := p.Of(0); n != 0 || is {
		t.Error("Of", n, is)
	}
	n, e := p.Take(0)
	told(t, n, e, 1, api.OK)
	want.take(0)
	if s, is := p.Owner(1); s != 0 || !is {
		t.Error("Owner of 1", s, is)
	}
	if s, is := p.Owner(2); s != 0 || is {
		t.Error("Owner of 2", s, is)
	}
	check(t, p, want)
}

// TestOwnersIsNew writes into what Owners answered, and behind it.
func TestOwnersIsNew(t *testing.T) {
	for _, n := range []int{0, 1, 3, 8, 100} {
		p, want := full(t, n)
		if n > 1 {
			p.Give(102)
			want.give(102)
		}
		list, again := p.Owners(), p.Owners()
		for i := range list {
			list[i] = 9
		}
		_ = append(list, 7, 8, 9)
		if !slices.Equal(again, want.owner[1:]) {
			t.Error(n, "two answers share", again)
		}
		check(t, p, want, "behind writes", n)
		before := p.Owners()
		for range 3 {
			_, space, _ := p.Victim(nil)
			p.Give(space)
		}
		if !slices.Equal(before, want.owner[1:]) {
			t.Error(n, "an answer changed", before)
		}
	}
}

// P14.2

func TestTakeEachLayout(t *testing.T) {
	each(func(owners []int, hand int) {
		for _, space := range slices.Concat(names, belowZero, strangers) {
			p, want := laid(t, owners, hand)
			wantN, wantErrno := want.take(space)
			n, e := p.Take(space)
			told(t, n, e, wantN, wantErrno, owners, "hand", hand, "Take", space)
			check(t, p, want, owners, "hand", hand, "Take", space)
		}
	})
}

// TestTakeByHand takes numbers of a pool whose hand stands at 3: all answers are written out.
func TestTakeByHand(t *testing.T) {
	for _, c := range []struct {
		owners                []int
		space, n, hand, round int
		errno                 api.Errno
	}{
		{[]int{-1, -1, -1, -1}, 5, 3, 4, 2, api.OK},      // that at the hand
		{[]int{-1, -1, 6, -1}, 5, 4, 1, 3, api.OK},       // one behind it, the last one
		{[]int{6, -1, 7, 8}, 5, 2, 3, 3, api.OK},         // one ahead of it: the hand is round where it was
		{[]int{-1, -1, 7, 8}, 5, 1, 2, 3, api.OK},        // the first one
		{[]int{6, 7, -1, 8}, 5, 3, 4, 2, api.OK},         // the last free one
		{[]int{5, -1, -1, -1}, 5, 1, 3, 2, api.OK},       // it has one: the hand stays
		{[]int{6, 7, 5, 8}, 5, 3, 3, 2, api.OK},          // it has that at the hand, and none is free
		{[]int{6, 7, 8, 9}, 5, 0, 3, 2, api.ErrCtx},      // none is free: the hand stays
		{[]int{6, 7, 8, 9}, -1, 0, 3, 2, api.ErrArg},     // no space, and none is free
		{[]int{-1, -1, -1, -1}, -1, 0, 3, 2, api.ErrArg}, // no space
		{[]int{-1, 6, -1, 7}, math.MinInt, 0, 3, 2, api.ErrArg},
		{[]int{-1, 6, 8, 7}, math.MaxInt, 1, 2, 3, api.OK},
		{[]int{6, 7, 8, -1}, 0, 4, 1, 3, api.OK},
	} {
		p, want := laid(t, c.owners, 3)
		n, e := p.Take(c.space)
		told(t, n, e, c.n, c.errno, c)
		if e == api.OK {
			want.owner[n] = c.space
		}
		want.hand, want.rounds = c.hand, c.round
		check(t, p, want, c)
	}
}

// TestTakeAll takes all numbers, and one more, of pools of any length.
func TestTakeAll(t *testing.T) {
	for _, n := range []int{0, 1, 2, 3, 64, 1000, most} {
		p, want := New(n), empty(n)
		for i := 1; i <= n; i++ {
			got, e := p.Take(1000 - i + n)
			told(t, got, e, i, api.OK, "of", n)
			hand, rounds := i+1, 0
			if i == n {
				hand, rounds = 1, 1
			}
			if p.Free() != n-i || p.Hand() != hand || p.Rounds() != rounds {
				t.Fatal("of", n, "Take", i, "Free", p.Free(), "Hand", p.Hand(), "Rounds", p.Rounds())
			}
			want.owner[i] = 1000 - i + n
			want.hand, want.rounds = hand, rounds
		}
		for range 3 {
			got, e := p.Take(0)
			told(t, got, e, 0, api.ErrCtx, "one more of", n)
			got, e = p.Take(-1)
			told(t, got, e, 0, api.ErrArg, "no space of", n)
		}
		check(t, p, want, "all of", n)
	}
}

// TestTakeOfOne takes and gives the only number: each time the hand goes a round.
func TestTakeOfOne(t *testing.T) {
	p := New(1)
	for i := range 5 {
		n, e := p.Take(i)
		told(t, n, e, 1, api.OK, "Take", i)
		n, e = p.Take(i)
		told(t, n, e, 1, api.OK, "Take again", i)
		check(t, p, &plain{owner: []int{-1, i}, hand: 1, rounds: i + 1}, "Take", i)
		n, e = p.Give(i)
		told(t, n, e, 1, api.OK, "Give", i)
		check(t, p, &plain{owner: []int{-1, -1}, hand: 1, rounds: i + 1}, "Give", i)
	}
}

// TestTakeBehindGive takes numbers that were given: each is taken when the hand comes to it, not ahead.
func TestTakeBehindGive(t *testing.T) {
	p := New(4)
	for _, c := range []struct {
		give, take, n, hand, rounds int
	}{{-1, 5, 1, 2, 0}, {-1, 6, 2, 3, 0}, {5, 7, 3, 4, 0}, {6, 8, 4, 1, 1}, {-1, 5, 1, 2, 1}, {8, 6, 2, 3, 1}, {-1, 9, 4, 1, 2}, {7, 8, 3, 4, 2}, {8, 8, 3, 4, 3}, {6, 10, 2, 3, 4}} {
		if c.give >= 0 {
			_, e := p.Give(c.give)
			told(t, 0, e, 0, api.OK, c)
		}
		n, e := p.Take(c.take)
		told(t, n, e, c.n, api.OK, c)
		if p.Hand() != c.hand || p.Rounds() != c.rounds {
			t.Fatal(c, "Hand", p.Hand(), "Rounds", p.Rounds())
		}
	}
	check(t, p, &plain{owner: []int{-1, 5, 10, 8, 9}, hand: 3, rounds: 4})
}

// P14.3

func TestVictimEachLayout(t *testing.T) {
	each(func(owners []int, hand int) {
		p, want := laid(t, owners, hand)
		for bits := range 1 << (len(owners) + 1) {
			var avoid []int
			for i, space := range names[:len(owners)+1] {
				if bits>>i&1 == 1 {
					avoid = append(avoid, space)
				}
			}
			wantN, wantSpace, wantErrno := want.victim(avoid)
			n, space, e := p.Victim(avoid)
			if n != wantN || space != wantSpace || e != wantErrno {
				t.Fatal(owners, "hand", hand, "avoid", avoid, "told", n, space, e, "want", wantN, wantSpace, wantErrno)
			}
		}
		check(t, p, want, "behind Victim", owners, "hand", hand)
	})
}

// TestVictimByHand asks a pool whose hand stands at 3: all answers are written out.
func TestVictimByHand(t *testing.T) {
	for _, c := range []struct {
		owners, avoid []int
		n, space      int
		errno         api.Errno
	}{
		{[]int{6, 7, 8, 9}, nil, 3, 8, api.OK},
		{[]int{6, 7, 8, 9}, []int{}, 3, 8, api.OK},
		{[]int{6, 7, 8, 9}, []int{8}, 4, 9, api.OK},
		{[]int{6, 7, 8, 9}, []int{9}, 3, 8, api.OK},
		{[]int{6, 7, 8, 9}, []int{9, 8}, 1, 6, api.OK},
		{[]int{6, 7, 8, 9}, []int{6, 8, 9}, 2, 7, api.OK},
		{[]int{6, 7, 8, 9}, []int{6, 7, 8, 9}, 0, 0, api.ErrCtx},
		{[]int{6, 7, 8, 9}, []int{9, 9, 6, 8, 6, 9, 7}, 0, 0, api.ErrCtx},
		{[]int{6, 7, -1, 9}, nil, 4, 9, api.OK},
		{[]int{6, 7, -1, -1}, []int{5}, 1, 6, api.OK},
		{[]int{-1, 7, -1, -1}, nil, 2, 7, api.OK},
		{[]int{-1, 7, -1, -1}, []int{7}, 0, 0, api.ErrCtx},
		{[]int{-1, -1, -1, -1}, nil, 0, 0, api.ErrCtx},
		{[]int{-1, -1, -1, -1}, []int{-1, 0, 1}, 0, 0, api.ErrCtx},
		// What is avoided are spaces, whatever numbers there are of the same value.
		{[]int{6, 7, 8, 9}, []int{1, 2, 3, 4}, 3, 8, api.OK},
		{[]int{4, 3, 2, 1}, []int{3, 2}, 4, 1, api.OK},
		{[]int{4, 3, 2, 1}, []int{1, 2}, 1, 4, api.OK},
		// Spaces that have no number, and such as are none, are nothing to avoid.
		{[]int{6, 7, 8, 9}, []int{0, 5, -1, -8, math.MinInt, math.MaxInt, 1<<32 + 8}, 3, 8, api.OK},
		{[]int{6, -1, -1, 0}, []int{-1, -2, math.MinInt, math.MaxInt}, 4, 0, api.OK},
		{[]int{6, -1, -1, 0}, []int{0}, 1, 6, api.OK},
		{[]int{-1, math.MaxInt, -1, 0}, []int{math.MaxInt}, 4, 0, api.OK},
		{[]int{-1, math.MaxInt, -1, 0}, []int{0}, 2, math.MaxInt, api.OK},
	} {
		p, want := laid(t, c.owners, 3)
		if n, space, e := p.Victim(c.avoid); n != c.n || space != c.space || e != c.errno {
			t.Error(c, "told", n, space, e)
		}
		check(t, p, want, c)
	}
}

// TestVictimLeavesTheList asserts that a list and its spare room are neither changed nor kept.
func TestVictimLeavesTheList(t *testing.T) {
	p, want := laid(t, []int{6, 7, 8, 9}, 2)
	room := []int{9, 7, 8, 7, 12, 11, 10}
	avoid := room[1:4]
	n, space, e := p.Victim(avoid)
	if n != 4 || space != 9 || e != api.OK {
		t.Error(n, space, e)
	}
	if !slices.Equal(room, []int{9, 7, 8, 7, 12, 11, 10}) {
		t.Error("changed", room)
	}
	copy(avoid, []int{9, 9, 9})
	if n, space, e := p.Victim(nil); n != 2 || space != 7 || e != api.OK {
		t.Error("of nil", n, space, e)
	}
	if n, space, e := p.Victim(avoid); n != 2 || space != 7 || e != api.OK {
		t.Error("of the other list", n, space, e)
	}
	check(t, p, want)
}

// TestVictimOfMany avoids all spaces but one, of as many as there may be, in a list that is far longer.
func TestVictimOfMany(t *testing.T) {
	p, want := full(t, most)
	var avoid []int
	for i := range 1 << 20 {
		if i%most != 4711 {
			avoid = append(avoid, 101+i%most)
		}
	}
	if n, space, e := p.Victim(avoid); n != 4712 || space != 4812 || e != api.OK {
		t.Error(n, space, e)
	}
	if n, space, e := p.Victim(append(avoid, 4812)); n != 0 || space != 0 || e != api.ErrCtx {
		t.Error("all", n, space, e)
	}
	check(t, p, want)
}

func TestStealEachLayout(t *testing.T) {
	each(func(owners []int, hand int) {
		for n := -1; n <= len(owners)+2; n++ {
			for _, space := range append([]int{-1, math.MinInt, 77}, names[:len(owners)+1]...) {
				p, want := laid(t, owners, hand)
				wantOld, wantErrno := want.steal(n, space)
				old, e := p.Steal(n, space)
				told(t, old, e, wantOld, wantErrno, owners, "hand", hand, "Steal", n, space)
				check(t, p, want, owners, "hand", hand, "Steal", n, space)
			}
		}
	})
}

// TestStealByHand steals numbers of a pool whose hand stands at 3: all answers are written out.
func TestStealByHand(t *testing.T) {
	for _, c := range []struct {
		owners                      []int
		n, space, old, hand, rounds int
		errno                       api.Errno
	}{
		{[]int{6, 7, 8, 9}, 3, 5, 8, 4, 2, api.OK}, // that at the hand
		{[]int{6, 7, 8, 9}, 4, 5, 9, 1, 3, api.OK}, // that behind it, the last one
		{[]int{6, 7, 8, 9}, 1, 5, 6, 2, 3, api.OK}, // one ahead of it
		{[]int{6, 7, 8, 9}, 2, 5, 7, 3, 3, api.OK}, // the hand is round where it was
		{[]int{0, -1, -1, -1}, 1, 5, 0, 2, 3, api.OK},
		{[]int{-1, -1, 8, -1}, 3, 0, 8, 4, 2, api.OK},
		{[]int{-1, -1, 8, -1}, 3, math.MaxInt, 8, 4, 2, api.OK},
		{[]int{6, 7, 8, 9}, 3, 8, 0, 3, 2, api.ErrExist}, // its own number
		{[]int{6, 7, 8, 9}, 3, 9, 0, 3, 2, api.ErrExist},
		{[]int{6, 7, -1, 9}, 3, 9, 0, 3, 2, api.ErrExist}, // it has one, and the number is free
		{[]int{6, 7, -1, 9}, 3, 5, 0, 3, 2, api.ErrNone},
		{[]int{6, 7, 8, -1}, 4, 0, 0, 3, 2, api.ErrNone},
		{[]int{6, 7, -1, 9}, 3, -1, 0, 3, 2, api.ErrArg}, // no space, and the number is free
		{[]int{6, 7, 8, 9}, 3, -1, 0, 3, 2, api.ErrArg},
		{[]int{6, 7, 8, 9}, 3, math.MinInt, 0, 3, 2, api.ErrArg},
		{[]int{6, 7, 8, 9}, 0, 5, 0, 3, 2, api.ErrArg},
		{[]int{6, 7, 8, 9}, 5, 5, 0, 3, 2, api.ErrArg},
		{[]int{6, 7, 8, 9}, 0, 6, 0, 3, 2, api.ErrArg}, // no number, and the space has one
		{[]int{6, 7, 8, 9}, 5, -1, 0, 3, 2, api.ErrArg},
		{[]int{-1, -1, -1, -1}, 5, 5, 0, 3, 2, api.ErrArg},
	} {
		p, want := laid(t, c.owners, 3)
		old, e := p.Steal(c.n, c.space)
		told(t, old, e, c.old, c.errno, c)
		if e == api.OK {
			want.owner[c.n] = c.space
			if n, is := p.Of(old); n != 0 || is {
				t.Error(c, "the old one has", n, is)
			}
			if n, is := p.Of(c.space); n != c.n || !is {
				t.Error(c, "the space has", n, is)
			}
		}
		want.hand, want.rounds = c.hand, c.rounds
		check(t, p, want, c)
	}
}

// TestNoNumbers asks for numbers that are none, of pools of which all, some and none are free.
func TestNoNumbers(t *testing.T) {
	for _, n := range []int{0, 1, 2, 64, most} {
		for _, all := range []bool{false, true} {
			p, want := New(n), empty(n)
			if all {
				p, want = full(t, n)
			}
			for _, i := range noNumbers(n) {
				if i >= 1 && i <= n {
					continue
				}
				for _, space := range []int{0, 5, 101, -1, math.MinInt, math.MaxInt} {
					old, e := p.Steal(i, space)
					told(t, old, e, 0, api.ErrArg, "Steal", i, space, "of", n)
				}
				if s, is := p.Owner(i); s != 0 || is {
					t.Fatal("Owner", i, "of", n, s, is)
				}
			}
			check(t, p, want, "of", n)
		}
	}
}

func TestGiveEachLayout(t *testing.T) {
	each(func(owners []int, hand int) {
		for _, space := range slices.Concat(names, belowZero, strangers) {
			p, want := laid(t, owners, hand)
			wantN, wantErrno := want.give(space)
			n, e := p.Give(space)
			told(t, n, e, wantN, wantErrno, owners, "hand", hand, "Give", space)
			check(t, p, want, owners, "hand", hand, "Give", space)
			n, e = p.Give(space)
			told(t, n, e, 0, api.ErrNone, owners, "hand", hand, "Give again", space)
			check(t, p, want, owners, "hand", hand, "Give again", space)
		}
	})
}

// TestGiveOfAll gives all numbers of a great pool, from behind; the hand stays where it is.
func TestGiveOfAll(t *testing.T) {
	p, want := full(t, most)
	for i := most; i >= 1; i-- {
		n, e := p.Give(100 + i)
		told(t, n, e, i, api.OK, "Give", 100+i)
		if p.Free() != most-i+1 || p.Hand() != 1 || p.Rounds() != 1 {
			t.Fatal("Give", 100+i, "Free", p.Free(), "Hand", p.Hand(), "Rounds", p.Rounds())
		}
		want.owner[i] = -1
	}
	check(t, p, want)
	n, e := p.Take(7)
	told(t, n, e, 1, api.OK)
}

// TestNoneAtAll makes all calls of pools of no numbers: all are refused, and the hand stays at 1.
func TestNoneAtAll(t *testing.T) {
	for _, made := range []int{0, -1, math.MinInt} {
		p := New(made)
		for _, space := range slices.Concat(names, strangers) {
			n, e := p.Take(space)
			told(t, n, e, 0, api.ErrCtx, "Take", space)
			n, e = p.Give(space)
			told(t, n, e, 0, api.ErrNone, "Give", space)
			for i := -2; i <= 2; i++ {
				n, e = p.Steal(i, space)
				told(t, n, e, 0, api.ErrArg, "Steal", i, space)
			}
		}
		for _, space := range belowZero {
			n, e := p.Take(space)
			told(t, n, e, 0, api.ErrArg, "Take", space)
			n, e = p.Give(space)
			told(t, n, e, 0, api.ErrNone, "Give", space)
			n, e = p.Steal(1, space)
			told(t, n, e, 0, api.ErrArg, "Steal", space)
		}
		for _, avoid := range [][]int{nil, {}, {0}, {-1, 1, 5}} {
			if n, space, e := p.Victim(avoid); n != 0 || space != 0 || e != api.ErrCtx {
				t.Error("Victim", avoid, n, space, e)
			}
		}
		check(t, p, empty(0), "of", made)
	}
}

// P14.4

// TestHandComesToAllOthers steals what Victim tells, behind takes and steals at each place: the hand comes to all other numbers ahead of the one that was taken or stolen.
func TestHandComesToAllOthers(t *testing.T) {
	for n := 1; n <= 9; n++ {
		for at := 1; at <= n; at++ {
			for _, taken := range []bool{false, true} {
				p, _ := full(t, n)
				if taken {
					p.Give(100 + at)
					got, e := p.Take(5)
					told(t, got, e, at, api.OK)
				} else {
					old, e := p.Steal(at, 5)
					told(t, old, e, 100+at, api.OK)
				}
				for i := 1; i <= n; i++ {
					hand, want := p.Hand(), (at+i-1)%n+1
					got, old, e := p.Victim(nil)
					if got != want || hand != want || e != api.OK {
						t.Fatal("of", n, "at", at, "taken", taken, "Victim", i, "told", got, "want", want, "hand", hand)
					}
					was, e := p.Steal(got, 200+i)
					told(t, was, e, old, api.OK, "of", n, "at", at, "Steal", got)
				}
				if space, is := p.Owner(at); space != 200+n || !is {
					t.Fatal("of", n, "at", at, "the last one is", space, is)
				}
			}
		}
	}
}

// TestHandComesToAllFree takes and gives one number again and again: each other one is taken ahead of it.
func TestHandComesToAllFree(t *testing.T) {
	for _, n := range []int{1, 2, 7, 100} {
		p := New(n)
		for i := range 3*n + 1 {
			got, e := p.Take(4)
			told(t, got, e, i%n+1, api.OK, "of", n, "Take", i)
			if rounds := (i + 1) / n; p.Rounds() != rounds {
				t.Fatal("of", n, "Take", i, "Rounds", p.Rounds(), "want", rounds)
			}
			got, e = p.Give(4)
			told(t, got, e, i%n+1, api.OK, "of", n, "Give", i)
		}
	}
}

// someSpace is one of so many spaces, or one that is none, or far off.
func someSpace(r *rand.Rand, n int) int {
	if r.Intn(20) == 0 {
		all := slices.Concat(belowZero, names)
		return all[r.Intn(len(all))]
	}
	return r.Intn(n + n/2 + 2)
}

// someList is so many spaces at most, some of them more than once.
func someList(r *rand.Rand, n int) []int {
	var list []int
	for range r.Intn(n + 3) {
		list = append(list, someSpace(r, n))
	}
	return list
}

// TestAnyCalls makes right and wrong calls one behind the other, and holds each answer, and all that is told behind it, against the plain pool.
func TestAnyCalls(t *testing.T) {
	r := rand.New(rand.NewSource(14))
	for _, n := range []int{0, 1, 2, 3, 5, 8, 17, 64, 300} {
		p, want := New(n), empty(n)
		for step := range 3000 {
			space, i := someSpace(r, n), r.Intn(n+4)-1
			switch r.Intn(5) {
			case 0, 1:
				wantN, wantErrno := want.take(space)
				got, e := p.Take(space)
				told(t, got, e, wantN, wantErrno, "of", n, "step", step, "Take", space)
			case 2:
				wantOld, wantErrno := want.steal(i, space)
				old, e := p.Steal(i, space)
				told(t, old, e, wantOld, wantErrno, "of", n, "step", step, "Steal", i, space)
			case 3:
				wantN, wantErrno := want.give(space)
				got, e := p.Give(space)
				told(t, got, e, wantN, wantErrno, "of", n, "step", step, "Give", space)
			case 4:
				avoid := someList(r, n)
				wantN, wantSpace, wantErrno := want.victim(avoid)
				if got, space, e := p.Victim(avoid); got != wantN || space != wantSpace || e != wantErrno {
					t.Fatal("of", n, "step", step, "Victim", avoid, "told", got, space, e, "want", wantN, wantSpace, wantErrno)
				}
			}
			check(t, p, want, "of", n, "step", step)
		}
	}
}

// TestAnyCallsOfMost is as TestAnyCalls, of as many numbers as there may be, with few of them free.
func TestAnyCallsOfMost(t *testing.T) {
	r := rand.New(rand.NewSource(140))
	p, want := full(t, most)
	for step := range 300 {
		space := 101 + r.Intn(most+200)
		if step%3 == 0 {
			wantN, wantErrno := want.give(space)
			got, e := p.Give(space)
			told(t, got, e, wantN, wantErrno, "step", step, "Give", space)
		}
		if step%3 == 1 {
			i := 1 + r.Intn(most)
			wantOld, wantErrno := want.steal(i, space)
			old, e := p.Steal(i, space)
			told(t, old, e, wantOld, wantErrno, "step", step, "Steal", i, space)
		}
		if step%3 == 2 {
			wantN, wantErrno := want.take(space)
			got, e := p.Take(space)
			told(t, got, e, wantN, wantErrno, "step", step, "Take", space)
		}
		quick(t, p, want, "step", step)
	}
	check(t, p, want, "at last")
}

// TestSameCallsSameAnswers makes the same calls of two pools: that other objects are there changes nothing.
func TestSameCallsSameAnswers(t *testing.T) {
	p, other := New(50), New(50)
	for step, r := 0, rand.New(rand.NewSource(4)); step < 2000; step++ {
		space, i := r.Intn(80), 1+r.Intn(50)
		a, e := p.Take(space)
		b, f := other.Take(space)
		told(t, b, f, a, e, "step", step, "Take", space)
		a, e = p.Steal(i, 80-space)
		b, f = other.Steal(i, 80-space)
		told(t, b, f, a, e, "step", step, "Steal", i, 80-space)
		a, e = p.Give(i)
		b, f = other.Give(i)
		told(t, b, f, a, e, "step", step, "Give", i)
		if !slices.Equal(p.Owners(), other.Owners()) || p.Hand() != other.Hand() || p.Rounds() != other.Rounds() {
			t.Fatal("step", step)
		}
	}
}

func TestExamples(t *testing.T) {
	p := New(2)
	for _, c := range []struct {
		space, n int
		errno    api.Errno
	}{{5, 1, api.OK}, {6, 2, api.OK}, {7, 0, api.ErrCtx}} {
		n, e := p.Take(c.space)
		told(t, n, e, c.n, c.errno, "Take", c.space)
	}
	if n, space, e := p.Victim(nil); n != 1 || space != 5 || e != api.OK {
		t.Error("Victim", n, space, e)
	}
	check(t, p, &plain{owner: []int{-1, 5, 6}, hand: 1, rounds: 1})
}
