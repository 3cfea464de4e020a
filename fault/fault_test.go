package fault

import (
	"math"
	"strings"
	"testing"

	"lookaside/api"
)

const top = ^uint64(0)

// bytes are the pages' bytes, written out.
var bytes = []uint64{8192, 65536, 524288, 4194304}

// The first and the last address of the hole.
const (
	holeFrom = uint64(1) << 43
	holeTo   = top - holeFrom
)

// unknown are numbers that are no kind of accesses, nor of faults; some of them are one modulo a power of 2.
var unknown = []int{math.MinInt, math.MinInt + 1, math.MinInt + 6, -1 << 32, -1<<32 + 1, -256, -255, -8, -7, -6, -5, -4, -3, -2, -1, 7, 8, 9, 16, 64, 128, 256, 257, 1 << 32, 1<<32 + 1, 1<<32 + 5, 1 << 62, math.MaxInt - 1, math.MaxInt}

// kinds are the kinds of accesses, as letters.
const kinds = "LSFP"

// permit is what attributes let be: of the accesses that are not by the system, and of those that are.
type permit struct{ user, system string }

// permits are written out for Write, Priv, Exec and Quiet (0 or 1 each), in this order.
var permits = map[string]permit{
	"0000": {"LP", "LP"},
	"1000": {"LSP", "LSP"},
	"0010": {"LFP", "LFP"},
	"1010": {"LSFP", "LSFP"},
	"0100": {"", "LP"},
	"1100": {"", "LSP"},
	"0110": {"", "LFP"},
	"1110": {"", "LSFP"},
	"0001": {"P", "P"},
	"1001": {"P", "P"},
	"0011": {"P", "P"},
	"1011": {"P", "P"},
	"0101": {"", "P"},
	"1101": {"", "P"},
	"0111": {"", "P"},
	"1111": {"", "P"},
}

// permitOf is the permit of attributes: Lock and Global are not asked.
func permitOf(attr api.Attr) permit {
	key := ""
	for _, is := range []bool{attr.Write, attr.Priv, attr.Exec, attr.Quiet} {
		if is {
			key += "1"
		} else {
			key += "0"
		}
	}
	return permits[key]
}

// allows tells whether a permit has an access.
func (p permit) allows(a api.Access) bool {
	if a.Priv {
		return strings.Contains(p.system, kinds[a.Kind:a.Kind+1])
	}
	return strings.Contains(p.user, kinds[a.Kind:a.Kind+1])
}

// attrs are all 64 attributes.
func attrs() []api.Attr {
	var l []api.Attr
	for i := range 64 {
		l = append(l, api.Attr{Write: i&1 != 0, Priv: i&2 != 0, Exec: i&4 != 0, Lock: i&8 != 0, Global: i&16 != 0, Quiet: i&32 != 0})
	}
	return l
}

// accesses are those of each kind, by the system or not, at an address.
func accesses(va uint64) []api.Access {
	var l []api.Access
	for _, kind := range []int{api.Load, api.Store, api.Fetch, api.Peek} {
		l = append(l, api.Access{Kind: kind, Va: va}, api.Access{Kind: kind, Priv: true, Va: va})
	}
	return l
}

// refusals are all the faults that attributes have of an access, each asked by itself, the one that is told first.
func refusals(attr api.Attr, a api.Access) []int {
	var l []int
	if attr.Priv && !a.Priv {
		l = append(l, api.AtPriv)
	}
	if attr.Quiet && a.Kind != api.Peek {
		l = append(l, api.AtQuiet)
	}
	if !attr.Write && a.Kind == api.Store {
		l = append(l, api.AtWrite)
	}
	if !attr.Exec && a.Kind == api.Fetch {
		l = append(l, api.AtExec)
	}
	return append(l, api.NoFault)
}

// P9.1

func TestMay(t *testing.T) {
	for _, va := range []uint64{0, 8192, holeFrom, holeTo, top} {
		for _, a := range accesses(va) {
			if !May(a) {
				t.Errorf("May(%+v) is false", a)
			}
		}
	}
	for _, kind := range append([]int{4, 5, 6}, unknown...) {
		for _, priv := range []bool{false, true} {
			if a := (api.Access{Kind: kind, Priv: priv, Va: 8192}); May(a) {
				t.Errorf("May(%+v) is true", a)
			}
		}
	}
}

func TestJudgeOrdinary(t *testing.T) {
	for _, c := range []struct {
		attr api.Attr
		a    api.Access
		want int
	}{
		{api.Attr{Exec: true}, api.Access{Kind: api.Store}, api.AtWrite}, // the chapter's example
		{api.Attr{}, api.Access{Kind: api.Load}, api.NoFault},
		{api.Attr{}, api.Access{Kind: api.Peek}, api.NoFault},
		{api.Attr{}, api.Access{Kind: api.Store}, api.AtWrite},
		{api.Attr{}, api.Access{Kind: api.Fetch}, api.AtExec},
		{api.Attr{Write: true}, api.Access{Kind: api.Store}, api.NoFault},
		{api.Attr{Write: true}, api.Access{Kind: api.Fetch}, api.AtExec},
		{api.Attr{Exec: true}, api.Access{Kind: api.Fetch}, api.NoFault},
		{api.Attr{Priv: true}, api.Access{Kind: api.Load}, api.AtPriv},
		{api.Attr{Priv: true}, api.Access{Kind: api.Peek}, api.AtPriv},
		{api.Attr{Priv: true}, api.Access{Kind: api.Load, Priv: true}, api.NoFault},
		{api.Attr{}, api.Access{Kind: api.Load, Priv: true}, api.NoFault},
		{api.Attr{Quiet: true}, api.Access{Kind: api.Load, Priv: true}, api.AtQuiet},
		{api.Attr{Quiet: true}, api.Access{Kind: api.Peek}, api.NoFault},
	} {
		if got := Judge(c.attr, c.a); got != c.want {
			t.Errorf("Judge(%+v, %+v) is %d, not %d", c.attr, c.a, got, c.want)
		}
	}
}

// TestJudgeTellsTheFirst: where several faults are there, the one told is the one that the chapter names first.
func TestJudgeTellsTheFirst(t *testing.T) {
	store, fetch := api.Access{Kind: api.Store}, api.Access{Kind: api.Fetch}
	system := func(a api.Access) api.Access { a.Priv = true; return a }
	for _, c := range []struct {
		attr api.Attr
		a    api.Access
		want int
	}{
		{api.Attr{Priv: true, Quiet: true}, store, api.AtPriv},
		{api.Attr{Priv: true, Quiet: true}, fetch, api.AtPriv},
		{api.Attr{Priv: true}, store, api.AtPriv},
		{api.Attr{Priv: true}, fetch, api.AtPriv},
		{api.Attr{Quiet: true}, store, api.AtQuiet},
		{api.Attr{Quiet: true}, fetch, api.AtQuiet},
		{api.Attr{Priv: true, Quiet: true}, system(store), api.AtQuiet},
		{api.Attr{Priv: true, Quiet: true}, system(fetch), api.AtQuiet},
		{api.Attr{Priv: true}, system(store), api.AtWrite},
		{api.Attr{Priv: true}, system(fetch), api.AtExec},
		{api.Attr{Priv: true, Quiet: true, Write: true, Exec: true}, store, api.AtPriv},
		{api.Attr{Quiet: true, Write: true, Exec: true}, store, api.AtQuiet},
		{api.Attr{Quiet: true, Write: true, Exec: true}, fetch, api.AtQuiet},
	} {
		if got := Judge(c.attr, c.a); got != c.want {
			t.Errorf("Judge(%+v, %+v) is %d, not %d", c.attr, c.a, got, c.want)
		}
	}
}

// TestJudgeOfAll: the address changes nothing; whether there is a fault at all goes by what is written out above.
func TestJudgeOfAll(t *testing.T) {
	for _, attr := range attrs() {
		for _, va := range []uint64{0, 8197, holeFrom, top} {
			for _, a := range accesses(va) {
				got := Judge(attr, a)
				if want := refusals(attr, a)[0]; got != want {
					t.Errorf("Judge(%+v, %+v) is %d, not %d", attr, a, got, want)
				}
				if want := permitOf(attr).allows(a); (got == api.NoFault) != want {
					t.Errorf("Judge(%+v, %+v) is %d, let be: %v", attr, a, got, want)
				}
			}
		}
	}
}

func TestJudgeOfLockAndGlobal(t *testing.T) {
	for _, attr := range attrs() {
		bare := attr
		bare.Lock, bare.Global = false, false
		for _, a := range accesses(8192) {
			if Judge(attr, a) != Judge(bare, a) {
				t.Errorf("Judge(%+v, %+v) is %d, without Lock and Global %d", attr, a, Judge(attr, a), Judge(bare, a))
			}
		}
	}
}

// bases are pages of a size, at both ends of all addresses and of the hole too.
func bases(size int) []uint64 {
	b := bytes[size]
	return []uint64{0, b, 5 * b, 1<<42 + b, holeFrom - b, holeTo + 1, holeTo + 1 + b, top - b + 1}
}

// wantOf is what is said of an address, which has the page or not.
func wantOf(attr api.Attr, a api.Access, in bool) int {
	if a.Va >= holeFrom && a.Va <= holeTo {
		return api.AtHole
	}
	if !in {
		return api.AtNothing
	}
	return refusals(attr, a)[0]
}

// checkOf asks Of of each kind of accesses, at a few addresses in an entry's page, and at those right beside it.
func checkOf(t *testing.T, e api.Entry, ctx int, is bool) {
	t.Helper()
	b := bytes[e.Size]
	for _, va := range []uint64{e.Va, e.Va + 1, e.Va + 8191, e.Va + b/2, e.Va + b - 1} {
		for _, a := range accesses(va) {
			if got, want := Of(e, ctx, a), wantOf(e.Attr, a, is); got != want {
				t.Errorf("Of(%+v, %d, %+v) is %d, not %d", e, ctx, a, got, want)
			}
		}
	}
	for _, va := range []uint64{e.Va - 1, e.Va + b} {
		for _, a := range accesses(va) {
			if got, want := Of(e, ctx, a), wantOf(e.Attr, a, false); got != want {
				t.Errorf("Of(%+v, %d, %+v), beside it, is %d, not %d", e, ctx, a, got, want)
			}
		}
	}
}

// TestOfPages: pages of each size, of attributes that are not Global, in their context and in others.
func TestOfPages(t *testing.T) {
	for size := range bytes {
		for _, va := range bases(size) {
			for _, attr := range attrs() {
				if attr.Global {
					continue
				}
				e := api.Entry{Valid: true, Size: size, Ctx: 3, Va: va, Pa: 4194304, Attr: attr}
				checkOf(t, e, 3, true)
				for _, ctx := range []int{0, 2, 4, api.MaxCtx, -3, math.MinInt, math.MaxInt} {
					checkOf(t, e, ctx, false)
				}
			}
		}
	}
}

func TestOfContextsAtTheEnds(t *testing.T) {
	for _, own := range []int{0, 1, api.MaxCtx - 1, api.MaxCtx} {
		for _, ctx := range []int{0, 1, api.MaxCtx - 1, api.MaxCtx} {
			checkOf(t, api.Entry{Valid: true, Ctx: own, Va: 8192, Attr: api.Attr{Write: true}}, ctx, own == ctx)
		}
	}
}

// TestOfGlobal: a Global entry is its addresses' in all contexts.
func TestOfGlobal(t *testing.T) {
	for size := range bytes {
		for _, va := range bases(size) {
			for _, attr := range attrs() {
				if !attr.Global {
					continue
				}
				e := api.Entry{Valid: true, Size: size, Va: va, Attr: attr}
				for _, ctx := range []int{0, 1, 3, api.MaxCtx} {
					checkOf(t, e, ctx, true)
				}
			}
		}
	}
}

// TestOfNotValid: an entry that is not Valid is no address's, Global or not.
func TestOfNotValid(t *testing.T) {
	for size := range bytes {
		for _, va := range bases(size) {
			for _, attr := range attrs() {
				checkOf(t, api.Entry{Size: size, Va: va, Attr: attr}, 0, false)
			}
		}
	}
}

// TestOfHole: at the edges of the hole, with entries right ahead of it, behind it and, though they may not be, in it.
func TestOfHole(t *testing.T) {
	open := api.Attr{Write: true, Exec: true}
	for _, c := range []struct {
		va   uint64 // of the entry
		at   uint64
		want int
	}{
		{holeFrom - 8192, holeFrom - 1, api.NoFault},
		{holeFrom - 8192, holeFrom, api.AtHole},
		{holeFrom - 8192, holeFrom + 8192, api.AtHole},
		{holeFrom - 8192, holeTo, api.AtHole},
		{holeFrom - 8192, holeTo + 1, api.AtNothing},
		{holeTo + 1, holeTo + 1, api.NoFault},
		{holeTo + 1, holeTo, api.AtHole},
		{holeTo + 1, holeFrom, api.AtHole},
		{holeTo + 1, holeFrom - 1, api.AtNothing},
		{holeFrom, holeFrom, api.AtHole},
		{holeFrom, holeFrom + 8191, api.AtHole},
		{1 << 62, 1<<62 + 5, api.AtHole},
		{1 << 63, 1<<63 + 5, api.AtHole},
		{0, 1 << 44, api.AtHole}, // its bit 43 is 0
		{0, 1 << 45, api.AtHole},
		{0, 1 << 63, api.AtHole},
	} {
		for _, a := range accesses(c.at) {
			for _, global := range []bool{false, true} {
				e := api.Entry{Valid: true, Va: c.va, Attr: open}
				e.Attr.Global = global
				if got := Of(e, 0, a); got != c.want {
					t.Errorf("Of(%+v, 0, %+v) is %d, not %d", e, a, got, c.want)
				}
			}
		}
	}
}

// TestOfHoleAheadOfAll: AtHole is told ahead of AtNothing, and of what the attributes say.
func TestOfHoleAheadOfAll(t *testing.T) {
	for _, va := range []uint64{holeFrom, holeFrom + 1, 1 << 44, 1 << 62, 1 << 63, holeTo - 8191, holeTo} {
		for _, a := range accesses(va) {
			for _, attr := range attrs() {
				for _, valid := range []bool{false, true} {
					e := api.Entry{Valid: valid, Ctx: 3, Va: va - va%8192, Attr: attr}
					for _, ctx := range []int{3, 4} {
						if got := Of(e, ctx, a); got != api.AtHole {
							t.Errorf("Of(%+v, %d, %+v) is %d", e, ctx, a, got)
						}
					}
				}
			}
		}
	}
	if got := Of(api.Entry{}, 0, api.Access{Va: holeFrom}); got != api.AtHole {
		t.Errorf("of no entry, in the hole: %d", got)
	}
	if got := Of(api.Entry{}, 0, api.Access{}); got != api.AtNothing {
		t.Errorf("of no entry, at 0: %d", got)
	}
}

// TestOfWrongSize: an entry of a size that is none has no address.
func TestOfWrongSize(t *testing.T) {
	for _, size := range append([]int{4, 5, 6}, unknown...) {
		for _, a := range accesses(8192) {
			if got := Of(api.Entry{Valid: true, Size: size, Va: 8192}, 0, a); got != api.AtNothing {
				t.Errorf("Of of the size %d, %+v is %d", size, a, got)
			}
		}
	}
}

// TestWrongAccesses: one that may not be is told something, and does not panic.
func TestWrongAccesses(t *testing.T) {
	for _, kind := range append([]int{4, 5, 6}, unknown...) {
		a := api.Access{Kind: kind, Va: 8192}
		for _, attr := range attrs() {
			for _, got := range []int{Judge(attr, a), Of(api.Entry{Valid: true, Va: 8192, Attr: attr}, 0, a)} {
				if got < api.NoFault || got >= api.FaultKinds {
					t.Errorf("of %+v, %+v is said %d", attr, a, got)
				}
			}
		}
	}
}

// P9.2

// told is what each kind is called, and told: the trap of a Load, a Store, a Fetch, a Peek, and the type.
var told = []struct {
	kind   int
	show   string
	traps  [4]int
	status int
}{
	{api.NoFault, "none", [4]int{0, 0, 0, 0}, 0},
	{api.AtHole, "hole", [4]int{0x30, 0x30, 0x08, 0x30}, 0x20},
	{api.AtNothing, "nothing", [4]int{0x68, 0x68, 0x64, 0x68}, 0},
	{api.AtPriv, "priv", [4]int{0x30, 0x30, 0x08, 0x30}, 1},
	{api.AtQuiet, "quiet", [4]int{0x30, 0x30, 0x08, 0x30}, 2},
	{api.AtWrite, "write", [4]int{0x6c, 0x6c, 0x6c, 0x6c}, 0},
	{api.AtExec, "exec", [4]int{0x30, 0x30, 0x08, 0x30}, 0x10},
}

func TestTrap(t *testing.T) {
	for _, c := range told {
		for _, va := range []uint64{0, 8197, holeFrom, top} {
			for _, a := range accesses(va) {
				if got := Trap(c.kind, a); got != c.traps[a.Kind] {
					t.Errorf("Trap(%d, %+v) is %#x, not %#x", c.kind, a, got, c.traps[a.Kind])
				}
			}
		}
	}
}

func TestTrapOfTheExample(t *testing.T) {
	a := api.Access{Kind: api.Store}
	if kind := Judge(api.Attr{Exec: true}, a); kind != api.AtWrite || Trap(kind, a) != 0x6c {
		t.Errorf("a Store to a page with Exec alone is %d, %#x", kind, Trap(kind, a))
	}
}

// TestTrapOfWrongAccesses: what may not be is no Fetch.
func TestTrapOfWrongAccesses(t *testing.T) {
	for _, c := range told {
		for _, kind := range append([]int{4, 5, 6}, unknown...) {
			if got := Trap(c.kind, api.Access{Kind: kind}); got != c.traps[api.Load] {
				t.Errorf("Trap(%d) of the access %d is %#x", c.kind, kind, got)
			}
		}
	}
}

func TestTypeAndShow(t *testing.T) {
	if len(told) != api.FaultKinds {
		t.Fatal("not each kind is written out")
	}
	for _, c := range told {
		if got := Type(c.kind); got != c.status {
			t.Errorf("Type(%d) is %#x, not %#x", c.kind, got, c.status)
		}
		if got := Show(c.kind); got != c.show {
			t.Errorf("Show(%d) is %q, not %q", c.kind, got, c.show)
		}
	}
}

func TestWrongKinds(t *testing.T) {
	for _, kind := range unknown {
		for _, a := range append(accesses(8192), api.Access{Kind: -1}, api.Access{Kind: 4}, api.Access{Kind: kind}) {
			if got := Trap(kind, a); got != 0 {
				t.Errorf("Trap(%d, %+v) is %#x", kind, a, got)
			}
		}
		if Type(kind) != 0 || Show(kind) != "" {
			t.Errorf("of the kind %d: type %#x, shown %q", kind, Type(kind), Show(kind))
		}
	}
}

// worst is the row from the worst one on.
var worst = []int{api.AtHole, api.AtNothing, api.AtPriv, api.AtQuiet, api.AtWrite, api.AtExec, api.NoFault}

func TestWorse(t *testing.T) {
	if len(worst) != api.FaultKinds {
		t.Fatal("not each kind is in the row")
	}
	for i, a := range worst {
		for j, b := range worst {
			if got := Worse(a, b); got != worst[min(i, j)] {
				t.Errorf("Worse(%d, %d) is %d, not %d", a, b, got, worst[min(i, j)])
			}
		}
	}
}

// TestWorseOfOneWrong: a number that is no kind counts as NoFault, so that each fault is worse, whichever way round.
func TestWorseOfOneWrong(t *testing.T) {
	for _, wrong := range unknown {
		for _, kind := range worst[:6] {
			if Worse(wrong, kind) != kind || Worse(kind, wrong) != kind {
				t.Errorf("of %d and %d: %d, %d", wrong, kind, Worse(wrong, kind), Worse(kind, wrong))
			}
		}
		if Worse(wrong, api.NoFault) != wrong || Worse(api.NoFault, wrong) != api.NoFault {
			t.Errorf("of %d and NoFault: %d, %d", wrong, Worse(wrong, api.NoFault), Worse(api.NoFault, wrong))
		}
	}
}

// TestWorseOfTwoWrong: of two that count as NoFault the first one.
func TestWorseOfTwoWrong(t *testing.T) {
	for _, a := range unknown {
		for _, b := range unknown {
			if got := Worse(a, b); got != a {
				t.Errorf("Worse(%d, %d) is %d", a, b, got)
			}
		}
	}
}

// P9.3

func TestLessOrdinary(t *testing.T) {
	none, write := api.Attr{}, api.Attr{Write: true}
	for _, c := range []struct {
		a, b api.Attr
		want bool
	}{
		{none, none, true},
		{none, write, true},
		{write, none, false},
		{none, api.Attr{Exec: true}, true},
		{api.Attr{Exec: true}, none, false},
		{write, api.Attr{Exec: true}, false},
		{api.Attr{Exec: true}, write, false},
		{api.Attr{Priv: true}, none, true},
		{none, api.Attr{Priv: true}, false},
		{api.Attr{Quiet: true}, none, true},
		{none, api.Attr{Quiet: true}, false},
		{api.Attr{Quiet: true}, api.Attr{Priv: true}, false}, // Peeks that are not by the system
		{api.Attr{Priv: true}, api.Attr{Quiet: true}, false}, // Loads by the system
		{api.Attr{Priv: true, Quiet: true}, api.Attr{Priv: true}, true},
		{api.Attr{Priv: true, Quiet: true}, api.Attr{Quiet: true}, true},
		{api.Attr{Quiet: true, Write: true, Exec: true}, api.Attr{Quiet: true}, true}, // Peeks alone, both
		{api.Attr{Quiet: true, Write: true}, none, true},
		{api.Attr{Priv: true, Write: true}, none, false}, // Stores by the system
		{api.Attr{Priv: true, Write: true}, write, true},
		{api.Attr{Lock: true}, api.Attr{Global: true}, true},
		{api.Attr{Global: true}, api.Attr{Lock: true}, true},
		{none, api.Attr{Lock: true, Global: true}, true},
	} {
		if got := Less(c.a, c.b); got != c.want {
			t.Errorf("Less(%+v, %+v) is %v", c.a, c.b, got)
		}
	}
}

// TestLessOfEachTwo goes by the permits that are written out, not by Judge.
func TestLessOfEachTwo(t *testing.T) {
	within := func(a, b string) bool { return strings.Trim(a, b) == "" }
	for _, a := range attrs() {
		for _, b := range attrs() {
			x, y := permitOf(a), permitOf(b)
			want := within(x.user, y.user) && within(x.system, y.system)
			if got := Less(a, b); got != want {
				t.Errorf("Less(%+v, %+v) is %v", a, b, got)
			}
		}
	}
}

// P9.4

// TestGreaterLetsBe: what the entry of lesser attributes lets be, that of greater ones does; and where they are not lesser, it lets something be that the other one does not.
func TestGreaterLetsBe(t *testing.T) {
	const va = 65536 + 8197
	entry := func(attr api.Attr) api.Entry { return api.Entry{Valid: true, Size: 1, Va: 65536, Attr: attr} }
	for _, a := range attrs() {
		for _, b := range attrs() {
			more := 0
			for _, x := range accesses(va) {
				if Of(entry(a), 0, x) == api.NoFault && Of(entry(b), 0, x) != api.NoFault {
					more++
				}
			}
			if Less(a, b) != (more == 0) {
				t.Errorf("Less(%+v, %+v) is %v, and the one lets be %d more", a, b, Less(a, b), more)
			}
		}
	}
}

// TestLessGoesOn: each is less than itself, and what is less than a lesser one is less.
func TestLessGoesOn(t *testing.T) {
	all := attrs()
	for _, a := range all {
		if !Less(a, a) {
			t.Errorf("%+v is not less than itself", a)
		}
		for _, b := range all {
			for _, c := range all {
				if Less(a, b) && Less(b, c) && !Less(a, c) {
					t.Errorf("%+v, %+v, %+v: the first is not less than the last", a, b, c)
				}
			}
		}
	}
}
