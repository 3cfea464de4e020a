package hash

import (
	"fmt"
	"math"
	"math/big"
	"math/rand"
	"reflect"
	"slices"
	"testing"

	"lookaside/api"
)

const (
	top      = ^uint64(0)
	holeFrom = uint64(1) << 43            // the first address in the hole
	holeTo   = uint64(0xfffff80000000000) // the first one behind it
)

// bytes are the pages' bytes, written out.
var bytes = []uint64{8192, 65536, 524288, 4194304}

// wrongSpaces are no space's number; some of them are one modulo a power of 2.
var wrongSpaces = []int{math.MinInt, math.MinInt + 1, math.MinInt + 63, -1 << 62, -1 << 32, -65, -64, -63, -2, -1, 64, 65, 127, 128, 255, 256, 1 << 32, 1<<32 + 1, 1 << 62, math.MaxInt - 63, math.MaxInt - 1, math.MaxInt}

// wrongSizes are no sizes; some of them are one modulo a power of 2.
var wrongSizes = []int{math.MinInt, math.MinInt + 1, math.MinInt + 3, -1 << 62, -1 << 32, -64, -8, -5, -4, -3, -2, -1, 4, 5, 6, 7, 8, 17, 64, 1 << 32, 1<<32 + 1, 1 << 62, math.MaxInt - 3, math.MaxInt - 1, math.MaxInt}

// belowOne are numbers below 1.
var belowOne = []int{0, -1, -2, -3, -64, -1 << 32, -1 << 62, math.MinInt + 1, math.MinInt}

// bases are addresses that begin a page of the size: the lowest and the highest ones, both ends of the hole, and some within it.
func bases(size int) []uint64 {
	n := bytes[size]
	return []uint64{0, n, 2 * n, 3 * n, 7 * n, 1000 * n, holeFrom - n, holeFrom, holeFrom + n, 1 << 44, 1 << 62, 1 << 63, holeTo - n, holeTo, holeTo + n, top - 2*n + 1, top - n + 1}
}

// wrongKeys are such as may not be; each lacks one thing but the last ones.
func wrongKeys() []Key {
	var l []Key
	for size, n := range bytes {
		for _, space := range wrongSpaces {
			l = append(l, Key{space, 0, size}, Key{space, 5 * n, size}, Key{space, top - n + 1, size})
		}
		for _, va := range bases(size) {
			for _, beside := range []uint64{1, 2, 4096, n / 2, n - 2, n - 1} {
				l = append(l, Key{0, va + beside, size}, Key{63, va + beside, size})
			}
		}
	}
	for _, size := range wrongSizes {
		l = append(l, Key{0, 0, size}, Key{63, 0, size}, Key{1, 8192, size}, Key{1, 1 << 22, size}, Key{1, 1 << 63, size})
		for _, space := range wrongSpaces {
			l = append(l, Key{space, 0, size}, Key{space, 1, size}, Key{space, top, size})
		}
	}
	return l
}

// chain is a key's chain, of n chains (1 or more), by sums that don't wrap round; the size is one.
func chain(k Key, n int) int {
	whole := func(x int) *big.Int { return big.NewInt(int64(x)) }
	sum := new(big.Int).SetUint64(k.Va / bytes[k.Size])
	sum.Add(sum, new(big.Int).Mul(whole(7), whole(k.Size)))
	sum.Add(sum, new(big.Int).Mul(whole(31), whole(k.Space)))
	sum.Mod(sum, new(big.Int).Lsh(big.NewInt(1), 64))
	return int(sum.Mod(sum, whole(n)).Int64())
}

// pair is a key and a thing.
type pair[V any] struct {
	k Key
	v V
}

// plain is a table as one list of all that it has, that which was put last first: what the tests hold the package against.
type plain[V any] struct {
	blocks, chains int
	list           []pair[V]
}

func (p *plain[V]) place(k Key) int {
	return slices.IndexFunc(p.list, func(x pair[V]) bool { return x.k == k })
}

func (p *plain[V]) put(k Key, v V) { p.list = append([]pair[V]{{k, v}}, p.list...) }

func (p *plain[V]) cut(k Key) { i := p.place(k); p.list = slices.Delete(p.list, i, i+1) }

func (p *plain[V]) set(k Key, v V) { p.list[p.place(k)].v = v }

// rows are the chains that have keys, as their numbers rise, and the numbers.
func (p *plain[V]) rows() (rows [][]pair[V], numbers []int) {
	by := map[int][]pair[V]{}
	for _, x := range p.list {
		i := chain(x.k, p.chains)
		by[i] = append(by[i], x)
	}
	for i := range by {
		numbers = append(numbers, i)
	}
	slices.Sort(numbers)
	for _, i := range numbers {
		rows = append(rows, by[i])
	}
	return rows, numbers
}

func (p *plain[V]) all() []pair[V] {
	rows, _ := p.rows()
	return slices.Concat(rows...)
}

// resize puts all anew, one by one, the other way round.
func (p *plain[V]) resize(chains int) {
	all := p.all()
	p.list, p.chains = nil, chains
	for _, x := range slices.Backward(all) {
		p.put(x.k, x.v)
	}
}

// both are a table and its plain one.
func both[V any](blocks, chains int) (*Table[V], *plain[V]) {
	return New[V](blocks, chains), &plain[V]{blocks: max(blocks, 0), chains: max(chains, 1)}
}

// told are all that a table tells.
func told[V any](x *Table[V]) []pair[V] {
	var l []pair[V]
	for k, v := range x.All() {
		l = append(l, pair[V]{k, v})
	}
	return l
}

// same tells whether both are alike; no list and an empty one are.
func same[V any](a, b []pair[V]) bool {
	return len(a) == 0 && len(b) == 0 || reflect.DeepEqual(a, b)
}

// keys are the keys alone.
func keys[V any](l []pair[V]) []Key {
	var all []Key
	for _, x := range l {
		all = append(all, x.k)
	}
	return all
}

// check asserts that a table is as it must be, by all calls that tell of it.
func check[V any](t *testing.T, x *Table[V], p *plain[V], said ...any) {
	t.Helper()
	rows, numbers := p.rows()
	longest := 0
	for _, row := range rows {
		longest = max(longest, len(row))
	}
	if x.Len() != len(p.list) || x.Free() != p.blocks-len(p.list) || x.Chains() != p.chains || x.Longest() != longest {
		t.Fatal(said, "Len", x.Len(), "Free", x.Free(), "Chains", x.Chains(), "Longest", x.Longest(), "want", len(p.list), p.blocks-len(p.list), p.chains, longest)
	}
	if all := told(x); !same(all, p.all()) {
		t.Fatal(said, "All", all, "want", p.all())
	}
	for i, row := range rows {
		if l := x.Row(numbers[i]); !slices.Equal(l, keys(row)) {
			t.Fatal(said, "Row", numbers[i], l, "want", keys(row))
		}
		for j, y := range row {
			if v, n, is := x.Get(y.k); !reflect.DeepEqual(v, y.v) || n != j+1 || !is {
				t.Fatal(said, "Get", y.k, v, n, is, "want", y.v, j+1)
			}
		}
	}
	noRows(t, x, p, numbers, said...)
	nothing(t, x, p, said...)
}

// noRows asserts that chains without keys, and numbers of no chain, have none.
func noRows[V any](t *testing.T, x *Table[V], p *plain[V], numbers []int, said ...any) {
	t.Helper()
	asked := append([]int{p.chains, p.chains - 1, math.MaxInt, math.MaxInt - 1, 1 << 32}, belowOne...)
	if p.chains < math.MaxInt {
		asked = append(asked, p.chains+1)
	}
	for i := range min(p.chains, 70) {
		asked = append(asked, i)
	}
	for _, i := range asked {
		if !slices.Contains(numbers, i) && len(x.Row(i)) != 0 {
			t.Fatal(said, "Row", i, x.Row(i))
		}
	}
}

// nothing asserts that of keys that are not there the zero thing is told, and how many their chain has; of keys that may not be, none of them.
func nothing[V any](t *testing.T, x *Table[V], p *plain[V], said ...any) {
	t.Helper()
	rows, numbers := p.rows()
	var zero V
	for _, k := range []Key{{0, 0, 0}, {0, 8192, 0}, {1, 0, 1}, {5, 3 * 65536, 1}, {63, 1 << 63, 2}, {63, top - 4194303, 3}, {62, 9 * 8192, 0}} {
		want := 0
		if i, is := slices.BinarySearch(numbers, chain(k, p.chains)); is {
			want = len(rows[i])
		}
		if v, n, is := x.Get(k); p.place(k) < 0 && (!reflect.DeepEqual(v, zero) || n != want || is) {
			t.Fatal(said, "Get", k, v, n, is, "want", want)
		}
	}
	for _, k := range []Key{{64, 0, 0}, {-1, 8192, 0}, {0, 1, 0}, {0, 8192, 1}, {0, 0, 4}, {0, 0, -1}, {math.MinInt, top, math.MinInt}} {
		if v, n, is := x.Get(k); !reflect.DeepEqual(v, zero) || n != 0 || is {
			t.Fatal(said, "Get", k, v, n, is)
		}
	}
}

// must asserts that all is OK.
func must(t *testing.T, errnos ...api.Errno) {
	t.Helper()
	for i, e := range errnos {
		if e != api.OK {
			t.Fatal(i, e)
		}
	}
}

// at is the key of a page of the size 0.
func at(space int, number uint64) Key { return Key{Space: space, Va: number * 8192} }

// laid is a table of that many blocks and chains, into which keys were put one behind the other; the things are their numbers, from 1 on.
func laid(t *testing.T, blocks, chains int, l ...Key) (*Table[int], *plain[int]) {
	t.Helper()
	x, p := both[int](blocks, chains)
	for i, k := range l {
		must(t, x.Put(k, i+1))
		p.put(k, i+1)
	}
	return x, p
}

// many are so many keys of all sizes and of several spaces, no two alike.
func many(n int) []Key {
	var l []Key
	for i := range n {
		size := i % 4
		l = append(l, Key{i * 5 % 64, uint64(i) * uint64(i+1) * bytes[size], size})
	}
	return l
}

// P11.1

func TestMayWrittenOut(t *testing.T) {
	for _, c := range []struct {
		k    Key
		want bool
	}{
		{Key{}, true}, {Key{63, 0, 0}, true}, {Key{64, 0, 0}, false}, {Key{-1, 0, 0}, false},
		{Key{0, 8192, 0}, true}, {Key{0, 8192, 1}, false}, {Key{0, 65536, 1}, true}, {Key{0, 65536, 2}, false}, {Key{0, 524288, 2}, true}, {Key{0, 524288, 3}, false}, {Key{0, 4194304, 3}, true},
		{Key{0, 0, 3}, true}, {Key{0, 0, 4}, false}, {Key{0, 0, -1}, false}, {Key{63, 4194304, 4}, false},
		{Key{0, 1, 0}, false}, {Key{0, 4096, 0}, false}, {Key{0, 8191, 0}, false}, {Key{0, 8193, 0}, false},
		{Key{63, top, 0}, false}, {Key{63, top - 8191, 0}, true}, {Key{63, top - 8191, 1}, false}, {Key{63, top - 65535, 1}, true}, {Key{63, top - 524287, 2}, true}, {Key{63, top - 4194303, 3}, true},
		{Key{1, holeFrom, 3}, true}, {Key{1, 1 << 44, 0}, true}, {Key{1, 1 << 63, 3}, true}, {Key{1, holeTo - 8192, 0}, true}, {Key{1, holeTo - 8192, 1}, false},
		{Key{math.MaxInt, 0, 0}, false}, {Key{math.MinInt, 0, 0}, false}, {Key{0, 0, math.MaxInt}, false}, {Key{0, 0, math.MinInt}, false},
	} {
		if is := May(c.k); is != c.want {
			t.Errorf("May(%v) is %v", c.k, is)
		}
	}
}

func TestMayEverywhere(t *testing.T) {
	for space := range 64 {
		for size, n := range bytes {
			for _, va := range bases(size) {
				for _, beside := range []uint64{0, 1, 4096, n / 8, n / 2, n - 1} {
					k := Key{space, va + beside, size}
					if is := May(k); is != (beside == 0) {
						t.Errorf("May(%v) is %v", k, is)
					}
				}
			}
		}
	}
	for _, k := range wrongKeys() {
		if May(k) {
			t.Errorf("May(%v)", k)
		}
	}
}

func TestChainWrittenOut(t *testing.T) {
	for _, c := range []struct {
		k    Key
		n    int
		want int
	}{
		{Key{}, 1, 0}, {Key{}, math.MaxInt, 0},
		{Key{2, 65536, 1}, 100, 70}, {Key{2, 65536, 1}, 70, 0}, {Key{2, 65536, 1}, 71, 70}, {Key{2, 65536, 1}, 7, 0}, {Key{2, 65536, 1}, 1, 0},
		{Key{0, 8192, 0}, 2, 1}, {Key{0, 16384, 0}, 2, 0},
		{Key{0, 0, 1}, 1000, 7}, {Key{0, 0, 2}, 1000, 14}, {Key{0, 0, 3}, 1000, 21}, {Key{1, 0, 0}, 1000, 31}, {Key{63, 0, 0}, 10000, 1953}, {Key{63, 0, 3}, 10000, 1974},
		{Key{0, top - 8191, 0}, math.MaxInt, 1<<51 - 1}, {Key{63, top - 4194303, 3}, math.MaxInt, 1<<42 - 1 + 21 + 1953},
		// Words of greater sums are no key's that may be.
		{Key{-1, 0, 0}, 100, 85}, {Key{-1, 30 * 8192, 0}, 100, 15}, {Key{-1, 31 * 8192, 0}, 100, 0}, {Key{-1, 32 * 8192, 0}, 100, 1}, {Key{-1, 24 * 65536, 1}, math.MaxInt, 0}, {Key{-1, 25 * 65536, 1}, math.MaxInt, 1},
		{Key{math.MaxInt, 0, 0}, 100, 77}, {Key{math.MaxInt, 0, 0}, math.MaxInt, math.MaxInt - 30}, {Key{math.MinInt, 0, 0}, math.MaxInt, 1}, {Key{math.MinInt, 8192, 0}, 1 << 62, 1}, {Key{1 << 62, 0, 0}, math.MaxInt - 1, 1<<62 + 2},
		{Key{0, 8191, 0}, 100, 0}, {Key{0, 8193, 0}, 100, 1}, {Key{0, top, 0}, math.MaxInt, 1<<51 - 1}, {Key{0, top, 3}, math.MaxInt, 1<<42 + 20},
	} {
		if i := Chain(c.k, c.n); i != c.want {
			t.Errorf("Chain(%v, %d) is %d, not %d", c.k, c.n, i, c.want)
		}
	}
}

func TestChainEverywhere(t *testing.T) {
	spaces := append([]int{0, 1, 2, 31, 62, 63}, wrongSpaces...)
	for _, n := range []int{1, 2, 3, 7, 10, 31, 64, 100, 217, 1 << 16, 1<<31 - 1, 1 << 32, 1<<51 - 1, 1 << 62, math.MaxInt - 1, math.MaxInt} {
		for _, space := range spaces {
			for size := range bytes {
				for _, va := range bases(size) {
					for _, k := range []Key{{space, va, size}, {space, va + 1, size}, {space, va - 1, size}} {
						if i := Chain(k, n); i != chain(k, n) {
							t.Errorf("Chain(%v, %d) is %d, not %d", k, n, i, chain(k, n))
						}
					}
				}
			}
		}
	}
}

// TestChainTellsSizesAndSpacesApart: page's numbers alike, or addresses alike.
func TestChainTellsSizesAndSpacesApart(t *testing.T) {
	seen := map[int]Key{}
	for space := range 64 {
		for size, n := range bytes {
			k := Key{space, 3 * n, size}
			i := Chain(k, 1<<40)
			if other, is := seen[i]; is || i != 3+7*size+31*space {
				t.Error(k, other, i)
			}
			seen[i] = k
		}
	}
	for space := range 63 {
		k, next := Key{space, 1 << 40, 2}, Key{space + 1, 1 << 40, 2}
		if Chain(next, 1<<40) != Chain(k, 1<<40)+31 || Chain(next, 31) != Chain(k, 31) {
			t.Error(space)
		}
	}
}

// TestChainOfNothing ends, and does not panic: of sizes and of numbers of chains that are none there is no chain.
func TestChainOfNothing(t *testing.T) {
	for _, size := range wrongSizes {
		for _, va := range []uint64{0, 1, 8192, 1 << 63, top} {
			for _, n := range []int{1, 2, 100, math.MaxInt} {
				if i := Chain(Key{1, va, size}, n); i != 0 {
					t.Error(size, va, n, i)
				}
			}
		}
	}
	for _, n := range belowOne {
		for _, k := range []Key{{}, {1, 8192, 0}, {63, top - 8191, 0}, {0, 0, 9}, {-1, 5, -1}} {
			if i := Chain(k, n); i != 0 {
				t.Error(k, n, i)
			}
		}
	}
}

func TestNew(t *testing.T) {
	for _, c := range []struct{ blocks, chains, free, want int }{
		{0, 1, 0, 1}, {1, 1, 1, 1}, {4, 4, 4, 4}, {1000, 3, 1000, 3}, {3, 1000, 3, 1000},
		{-1, 0, 0, 1}, {-1, -1, 0, 1}, {5, 0, 5, 1}, {5, -7, 5, 1}, {0, 9, 0, 9}, {-9, 9, 0, 9},
		{math.MaxInt, math.MaxInt, math.MaxInt, math.MaxInt}, {math.MinInt, math.MinInt, 0, 1}, {math.MaxInt, math.MinInt, math.MaxInt, 1}, {math.MinInt, math.MaxInt, 0, math.MaxInt},
	} {
		x := New[int](c.blocks, c.chains)
		if x.Free() != c.free || x.Chains() != c.want || x.Len() != 0 || x.Longest() != 0 {
			t.Error(c, x.Free(), x.Chains(), x.Len(), x.Longest())
		}
		_, p := both[int](c.blocks, c.chains)
		check(t, x, p, c)
	}
}

// TestOfNoBlock: nothing can be put, whatever the chains.
func TestOfNoBlock(t *testing.T) {
	for _, blocks := range belowOne {
		for _, chains := range []int{math.MinInt, -1, 0, 1, 2, math.MaxInt} {
			x, p := both[string](blocks, chains)
			for _, k := range many(9) {
				if e := x.Put(k, "a"); e != api.ErrMem {
					t.Error(blocks, chains, k, e)
				}
				if x.Set(k, "a") != api.ErrNone || x.Cut(k) != api.ErrNone {
					t.Error(k)
				}
			}
			check(t, x, p, blocks, chains)
		}
	}
}

// TestOfManyBlocks: as many as an int tells, in as many chains.
func TestOfManyBlocks(t *testing.T) {
	x, p := both[int](math.MaxInt, math.MaxInt)
	for i, k := range many(200) {
		must(t, x.Put(k, i))
		p.put(k, i)
	}
	check(t, x, p)
	must(t, x.Resize(math.MaxInt-1), x.Resize(1))
	p.resize(math.MaxInt - 1)
	p.resize(1)
	check(t, x, p)
	must(t, x.Resize(math.MaxInt))
	p.resize(math.MaxInt)
	check(t, x, p)
}

// TestExample is the document's.
func TestExample(t *testing.T) {
	for _, chains := range []int{1, 2, 1000} {
		x := New[string](1, chains)
		a, b := at(0, 1), at(0, 2)
		must(t, x.Put(a, "a"))
		if e := x.Put(b, "b"); e != api.ErrMem {
			t.Error(e)
		}
		must(t, x.Cut(a), x.Put(b, "b"))
		if v, n, is := x.Get(b); v != "b" || n != 1 || !is {
			t.Error(v, n, is)
		}
		if _, n, is := x.Get(a); is || n != len(x.Row(Chain(a, chains))) {
			t.Error(n, is)
		}
	}
}

// TestPutUpToTheLastBlock: one key more has no room, until one is cut; so again and again.
func TestPutUpToTheLastBlock(t *testing.T) {
	for _, chains := range []int{1, 2, 3, 7, 100, math.MaxInt} {
		for _, blocks := range []int{1, 2, 3, 10, 40} {
			l := many(2 * blocks)
			x, p := both[int](blocks, chains)
			for i, k := range l[:blocks] {
				must(t, x.Put(k, i))
				p.put(k, i)
				check(t, x, p, chains, blocks, i)
			}
			for i, k := range l[blocks:] {
				if e := x.Put(k, -1); e != api.ErrMem {
					t.Fatal(chains, blocks, e)
				}
				check(t, x, p, chains, blocks, i)
				must(t, x.Cut(l[i]), x.Put(k, i))
				p.cut(l[i])
				p.put(k, i)
				check(t, x, p, chains, blocks, i)
			}
		}
	}
}

// TestPutIsFirst: what is put last is first in its chain, and no other chain's row is told otherwise.
func TestPutIsFirst(t *testing.T) {
	a, b, c, d := at(0, 1), at(0, 5), at(1, 2), at(0, 2) // the first three are of the chain 1 of 4
	x, p := laid(t, 9, 4, a, b, d, c)
	if l := x.Row(1); !slices.Equal(l, []Key{c, b, a}) {
		t.Error(l)
	}
	if l := x.Row(2); !slices.Equal(l, []Key{d}) {
		t.Error(l)
	}
	must(t, x.Cut(a), x.Put(a, 7))
	p.cut(a)
	p.put(a, 7)
	if l := x.Row(1); !slices.Equal(l, []Key{a, c, b}) {
		t.Error(l)
	}
	check(t, x, p)
}

// TestPutErrors: each error alone, and which one is told where two or three hold; nothing is changed by any.
func TestPutErrors(t *testing.T) {
	in, out := at(3, 4), at(3, 5)
	for _, chains := range []int{1, 2, math.MaxInt} {
		for _, full := range []bool{false, true} {
			x, p := laid(t, 3, chains, at(0, 0), in)
			if full {
				must(t, x.Put(at(9, 9), 9))
				p.put(at(9, 9), 9)
			}
			for _, k := range wrongKeys() {
				if e := x.Put(k, 5); e != api.ErrArg {
					t.Fatal(full, k, e)
				}
			}
			check(t, x, p, chains, full)
			if e := x.Put(in, 5); e != api.ErrExist {
				t.Error(full, e)
			}
			check(t, x, p, chains, full)
			if e := x.Put(out, 5); (e == api.ErrMem) != full || (e == api.OK) == full {
				t.Error(full, e)
			}
			if !full {
				p.put(out, 5)
			}
			check(t, x, p, chains, full)
		}
	}
}

// TestNearKeysAreOthers: keys that part in one thing alone are not one, in one chain and in many.
func TestNearKeysAreOthers(t *testing.T) {
	l := []Key{{0, 0, 0}, {0, 0, 1}, {0, 0, 2}, {0, 0, 3}, {1, 0, 0}, {63, 0, 0}, {63, 0, 3}, {0, 4194304, 0}, {0, 4194304, 3}, {1, 4194304, 3}, {0, 1 << 63, 0}, {0, 1<<63 + 8192, 0}, {0, holeTo, 0}, {0, holeFrom, 0}}
	for _, chains := range []int{1, 2, 31, math.MaxInt} {
		x, p := both[int](len(l), chains)
		for i, k := range l {
			for _, other := range l[i:] {
				if _, _, is := x.Get(other); is || x.Set(other, 9) != api.ErrNone || x.Cut(other) != api.ErrNone {
					t.Fatal(chains, k, other)
				}
			}
			must(t, x.Put(k, i+1))
			p.put(k, i+1)
			check(t, x, p, chains, k)
		}
		for _, k := range l {
			must(t, x.Set(k, 77), x.Cut(k))
			p.cut(k)
			check(t, x, p, chains, k)
		}
	}
}

// TestSetAndCutAtEachPlace: of a key that is first, last and amid its chain, of chains of one to seven keys: the others' rows and things stay.
func TestSetAndCutAtEachPlace(t *testing.T) {
	for length := 1; length <= 7; length++ {
		for place := range length {
			var l []Key
			for i := range length {
				l = append(l, at(2, uint64(10*i+3)), at(2, uint64(10*i+4)))
			}
			x, p := laid(t, 20, 10, l...)
			k := x.Row(Chain(l[0], 10))[place]
			if _, n, is := x.Get(k); n != place+1 || !is {
				t.Error(length, place, n, is)
			}
			must(t, x.Set(k, -5))
			p.set(k, -5)
			if v, n, is := x.Get(k); v != -5 || n != place+1 || !is {
				t.Error(length, place, v, n, is)
			}
			check(t, x, p, length, place)
			must(t, x.Cut(k))
			p.cut(k)
			if v, n, is := x.Get(k); v != 0 || n != length-1 || is {
				t.Error(length, place, v, n, is)
			}
			check(t, x, p, length, place)
			if x.Cut(k) != api.ErrNone || x.Set(k, 5) != api.ErrNone {
				t.Error(length, place)
			}
			check(t, x, p, length, place)
			must(t, x.Put(k, 6))
			p.put(k, 6)
			if _, n, _ := x.Get(k); n != 1 {
				t.Error(length, place, n)
			}
			check(t, x, p, length, place)
		}
	}
}

// TestSetAndCutOfNothing: ErrNone, and nothing is changed: of keys that may be, in chains of none, one and many, and of such as may not be.
func TestSetAndCutOfNothing(t *testing.T) {
	// Of 4 chains, the chain 0 has none, the chain 1 has one, the chain 2 has three, and all blocks are taken.
	x, p := laid(t, 4, 4, at(0, 1), at(0, 2), at(0, 6), at(0, 10))
	for _, k := range append(wrongKeys(), at(0, 0), at(0, 5), at(0, 14), at(1, 1), at(1, 2), at(63, 3)) {
		if e := x.Set(k, 9); e != api.ErrNone {
			t.Error("Set", k, e)
		}
		if e := x.Cut(k); e != api.ErrNone {
			t.Error("Cut", k, e)
		}
	}
	check(t, x, p)
}

// TestGetLooksAt: how many blocks, written out.
func TestGetLooksAt(t *testing.T) {
	x, _ := laid(t, 9, 4, at(0, 1), at(0, 2), at(0, 6), at(0, 10), at(0, 14))
	for _, c := range []struct {
		k    Key
		v, n int
	}{
		{at(0, 1), 1, 1}, {at(0, 14), 5, 1}, {at(0, 10), 4, 2}, {at(0, 6), 3, 3}, {at(0, 2), 2, 4},
		{at(0, 0), 0, 0}, {at(0, 3), 0, 0}, {at(0, 5), 0, 1}, {at(0, 18), 0, 4}, {at(2, 0), 0, 4}, {Key{0, 3 * 65536, 1}, 0, 4}, {Key{0, 2 * 65536, 1}, 0, 1}, {Key{0, 0, 2}, 0, 4},
	} {
		if v, n, is := x.Get(c.k); v != c.v || n != c.n || is != (c.v != 0) {
			t.Error(c, v, n, is)
		}
	}
	for _, k := range wrongKeys() {
		if v, n, is := x.Get(k); v != 0 || n != 0 || is {
			t.Error(k, v, n, is)
		}
	}
}

// TestGetOfOneChain: wherever a key stands, so many are looked at as were put since.
func TestGetOfOneChain(t *testing.T) {
	l := many(50)
	for used := range l {
		x, _ := laid(t, 50, 1, l[:used]...)
		for i, k := range l {
			want := used - i
			if i >= used {
				want = used
			}
			if _, n, is := x.Get(k); n != want || is != (i < used) {
				t.Error(used, i, n, is)
			}
		}
	}
}

// P11.2

func TestOfEmptyTable(t *testing.T) {
	for _, chains := range []int{1, 2, 64, math.MaxInt} {
		x, p := laid(t, 5, chains)
		check(t, x, p, chains)
		if x.Longest() != 0 || x.Len() != 0 || x.Free() != 5 || len(told(x)) != 0 {
			t.Error(chains)
		}
		k := at(1, 1)
		must(t, x.Put(k, 1), x.Cut(k))
		check(t, x, p, chains)
	}
}

func TestLongest(t *testing.T) {
	x := New[int](9, 3)
	for i, c := range []struct {
		cut    bool
		number uint64
		want   int
	}{{false, 0, 1}, {false, 1, 1}, {false, 4, 2}, {false, 3, 2}, {false, 7, 3}, {true, 4, 2}, {true, 1, 2}, {true, 7, 2}, {true, 0, 1}, {false, 2, 1}, {true, 3, 1}, {true, 2, 0}} {
		if c.cut {
			must(t, x.Cut(at(0, c.number)))
		} else {
			must(t, x.Put(at(0, c.number), 1))
		}
		if x.Longest() != c.want {
			t.Error(i, x.Longest())
		}
	}
}

// TestAllStops: the one who asks is told no more than was asked for, wherever that is, and each time anew.
func TestAllStops(t *testing.T) {
	x, p := laid(t, 40, 7, many(40)...)
	want := p.all()
	all := x.All()
	for stop := 1; stop <= len(want); stop++ {
		var l []pair[int]
		for k, v := range all {
			if l = append(l, pair[int]{k, v}); len(l) == stop {
				break
			}
		}
		if !same(l, want[:stop]) {
			t.Fatal(stop, l)
		}
	}
	n := 0
	all(func(Key, int) bool { n++; return n < 5 })
	if n != 5 {
		t.Error(n)
	}
	check(t, x, p)
}

func TestAllWrittenOut(t *testing.T) {
	x, _ := laid(t, 9, 4, at(0, 3), at(0, 1), at(0, 5), at(0, 7), at(0, 0), at(0, 9))
	want := []pair[int]{{at(0, 0), 5}, {at(0, 9), 6}, {at(0, 5), 3}, {at(0, 1), 2}, {at(0, 7), 4}, {at(0, 3), 1}}
	if l := told(x); !same(l, want) {
		t.Error(l)
	}
}

// TestAllIsAsItWas: what is done to the table behind the call of All, ahead of telling and amid it, is not told.
func TestAllIsAsItWas(t *testing.T) {
	spare := at(60, 60)
	for i, do := range []func(x *Table[int], k Key){
		func(x *Table[int], k Key) { x.Cut(k) },
		func(x *Table[int], k Key) { x.Set(k, -1) },
		func(x *Table[int], k Key) { x.Set(at(0, 3), -1) },
		func(x *Table[int], k Key) { x.Cut(at(0, 3)) },
		func(x *Table[int], k Key) { x.Cut(k); x.Put(k, -1) },
		func(x *Table[int], k Key) { x.Put(Key{5, k.Va, 0}, -1) },
		func(x *Table[int], k Key) { x.Resize(x.Chains()%5 + 1) },
		func(x *Table[int], k Key) { x.Resize(math.MaxInt) },
	} {
		for _, chains := range []int{1, 4, 100} {
			x, p := laid(t, 50, chains, at(0, 0), at(0, 1), at(0, 2), at(0, 5), at(0, 6), at(0, 4), at(0, 3))
			want := p.all()
			all := x.All()
			do(x, spare)
			var l []pair[int]
			for k, v := range all {
				l = append(l, pair[int]{k, v})
				do(x, k)
			}
			if !same(l, want) {
				t.Error(i, chains, l)
			}
		}
	}
}

// TestAllAmidAll: two are told at once.
func TestAllAmidAll(t *testing.T) {
	x, p := laid(t, 9, 3, many(9)...)
	all, n := p.all(), 0
	for k, v := range x.All() {
		if (pair[int]{k, v}) != all[n] || !same(told(x), all) {
			t.Error(n)
		}
		n++
	}
}

// TestRowIsNew: what is done to a row, and to its spare room, is not done to the table, nor to another row.
func TestRowIsNew(t *testing.T) {
	x, p := laid(t, 20, 2, many(15)...)
	one, two := x.Row(0), x.Row(0)
	want := slices.Clone(one)
	clear(one)
	_ = append(one[:1], at(1, 1), at(1, 1))
	if !slices.Equal(two, want) || len(want) < 3 {
		t.Error(two)
	}
	check(t, x, p)
	must(t, x.Cut(want[0]), x.Put(at(0, 4), 1))
	if !slices.Equal(two, want) {
		t.Error(two)
	}
}

// P11.3

func TestResizeWrittenOut(t *testing.T) {
	x, _ := laid(t, 9, 4, at(0, 3), at(0, 1), at(0, 5), at(0, 7), at(0, 0), at(0, 9)) // 0 | 9 5 1 | none | 7 3
	rows := func(numbers ...[]uint64) {
		t.Helper()
		if x.Chains() != len(numbers) || x.Len() != 6 || x.Free() != 3 {
			t.Error(x.Chains(), x.Len(), x.Free())
		}
		for i, l := range numbers {
			var want []Key
			for _, n := range l {
				want = append(want, at(0, n))
			}
			if row := x.Row(i); !slices.Equal(row, want) {
				t.Error(i, row, want)
			}
		}
	}
	rows([]uint64{0}, []uint64{9, 5, 1}, nil, []uint64{7, 3})
	must(t, x.Resize(4))
	rows([]uint64{0}, []uint64{9, 5, 1}, nil, []uint64{7, 3})
	must(t, x.Resize(2)) // those of the chain 1 stand ahead of those that were in 3
	rows([]uint64{0}, []uint64{9, 5, 1, 7, 3})
	must(t, x.Resize(3)) // those of one chain part, and meet those of another
	rows([]uint64{0, 9, 3}, []uint64{1, 7}, []uint64{5})
	must(t, x.Resize(1))
	rows([]uint64{0, 9, 3, 1, 7, 5})
	must(t, x.Resize(4))
	rows([]uint64{0}, []uint64{9, 1, 5}, nil, []uint64{3, 7})
	must(t, x.Resize(6))
	rows([]uint64{0}, []uint64{1, 7}, nil, []uint64{9, 3}, nil, []uint64{5})
}

// TestResizeEachToEach: to one chain, to fewer, to as many, to more, and back.
func TestResizeEachToEach(t *testing.T) {
	counts := []int{1, 2, 3, 4, 7, 8, 31, 64, 1000, 1 << 40, math.MaxInt}
	for _, from := range counts {
		for _, to := range counts {
			x, p := laid(t, 41, from, many(40)...)
			must(t, x.Resize(to))
			p.resize(to)
			check(t, x, p, from, to)
			// It is a table as any other one.
			k := at(33, 33)
			must(t, x.Put(k, 99), x.Cut(many(40)[7]), x.Set(many(40)[8], 98))
			p.put(k, 99)
			p.cut(many(40)[7])
			p.set(many(40)[8], 98)
			check(t, x, p, from, to)
			must(t, x.Resize(from))
			p.resize(from)
			check(t, x, p, from, to)
		}
	}
}

// TestResizeKeepsRows: of two keys of one chain that come to one, that which was ahead is ahead, also where others come between.
func TestResizeKeepsRows(t *testing.T) {
	for _, from := range []int{1, 2, 5, 9} {
		for _, to := range []int{1, 2, 3, 6, 9, 50} {
			x, _ := laid(t, 60, from, many(60)...)
			var old [][]Key
			for i := range from {
				old = append(old, x.Row(i))
			}
			must(t, x.Resize(to))
			for _, row := range old {
				for i, a := range row {
					for _, b := range row[i+1:] {
						_, atA, _ := x.Get(a)
						_, atB, _ := x.Get(b)
						if Chain(a, to) == Chain(b, to) && atA >= atB {
							t.Error(from, to, a, b)
						}
					}
				}
			}
		}
	}
}

// TestResizeRefuses: nothing is changed.
func TestResizeRefuses(t *testing.T) {
	for _, chains := range []int{1, 5, math.MaxInt} {
		x, p := laid(t, 20, chains, many(15)...)
		for _, n := range belowOne {
			if e := x.Resize(n); e != api.ErrArg {
				t.Error(chains, n, e)
			}
			check(t, x, p, chains, n)
		}
	}
}

// TestResizeOfEmptyAndFull: room is neither needed nor won.
func TestResizeOfEmptyAndFull(t *testing.T) {
	for _, used := range []int{0, 1, 12} {
		x, p := laid(t, used, 5, many(used)...)
		for _, n := range []int{1, 2, 5, 100, math.MaxInt, 3} {
			must(t, x.Resize(n))
			p.resize(n)
			check(t, x, p, used, n)
			if e := x.Put(at(50, 50), 1); e != api.ErrMem {
				t.Error(used, n, e)
			}
		}
	}
}

// P11.4

// thing makes things of a type by numbers.
type thing[V any] func(n int) V

// step does one thing of all to both.
func step[V any](t *testing.T, r *rand.Rand, x *Table[V], p *plain[V], of thing[V]) {
	t.Helper()
	size := r.Intn(4)
	k := Key{r.Intn(3) * 31, uint64(r.Intn(6)) * bytes[size], size}
	if r.Intn(2) == 0 {
		k.Va = -k.Va
	}
	has, full, v := p.place(k) >= 0, len(p.list) == p.blocks, of(r.Intn(1000)+1)
	switch r.Intn(10) {
	case 0, 1, 2, 3:
		e := x.Put(k, v)
		switch {
		case has && e == api.ErrExist, !has && full && e == api.ErrMem:
		case !has && !full && e == api.OK:
			p.put(k, v)
		default:
			t.Fatal("Put", k, e, has, full)
		}
	case 4, 5:
		if e := x.Set(k, v); (e == api.OK) != has || !has && e != api.ErrNone {
			t.Fatal("Set", k, e, has)
		}
		if has {
			p.set(k, v)
		}
	case 6, 7, 8:
		if e := x.Cut(k); (e == api.OK) != has || !has && e != api.ErrNone {
			t.Fatal("Cut", k, e, has)
		}
		if has {
			p.cut(k)
		}
	case 9:
		n := r.Intn(12) + 1
		must(t, x.Resize(n))
		p.resize(n)
	}
}

// rowsOf does rows of all calls, held against lists; no chain is longer than how many keys there are.
func rowsOf[V any](t *testing.T, of thing[V]) {
	for seed := range 6 {
		r := rand.New(rand.NewSource(int64(seed)))
		x, p := both[V](10+12*seed, 1+seed)
		for i := range 700 {
			step(t, r, x, p, of)
			if x.Longest() > x.Len() {
				t.Fatal(x.Longest(), x.Len())
			}
			if i%7 == 0 {
				check(t, x, p, fmt.Sprintf("%T", *new(V)), seed, i)
			}
		}
	}
}

// TestThings: tables of several types of things.
func TestThings(t *testing.T) {
	rowsOf(t, func(n int) int { return n })
	rowsOf(t, func(n int) string { return fmt.Sprint("thing ", n) })
	rowsOf(t, func(n int) api.Page {
		return api.Page{Va: uint64(n) * 8192, Size: n % 4, Attr: api.Attr{Write: n%2 == 0}, Mod: n%3 == 0}
	})
	rowsOf(t, func(n int) []int { return []int{n, n + 1, n % 5} })
	rowsOf(t, func(n int) *int { return &n })
	rowsOf(t, func(n int) [3]byte { return [3]byte{byte(n), byte(n / 256), 1} })
	rowsOf(t, func(n int) struct{} { return struct{}{} })
	rowsOf(t, func(n int) bool { return n%2 == 0 })
	rowsOf(t, func(n int) any {
		if n%2 == 0 {
			return n
		}
		return []string{fmt.Sprint(n)}
	})
	rowsOf(t, func(n int) error { return api.Errno(n) })
}

// TestZeroThings: a key that has the zero thing is there.
func TestZeroThings(t *testing.T) {
	x, k := New[[]string](2, 2), at(1, 1)
	must(t, x.Put(k, nil))
	if v, n, is := x.Get(k); v != nil || n != 1 || !is {
		t.Error(v, n, is)
	}
	if e := x.Put(k, []string{"a"}); e != api.ErrExist {
		t.Error(e)
	}
	must(t, x.Set(k, []string{"a"}), x.Set(k, nil))
	if l := told(x); len(l) != 1 || l[0].k != k || l[0].v != nil {
		t.Error(l)
	}
	must(t, x.Cut(k))
}

// TestGotWhateverTheChains: what was put is got, and what was cut is not, behind each of many resizes.
func TestGotWhateverTheChains(t *testing.T) {
	l := many(300)
	x := New[int](300, 1)
	for i, k := range l {
		must(t, x.Put(k, i))
	}
	for i := 0; i < len(l); i += 3 {
		must(t, x.Cut(l[i]))
	}
	for _, n := range []int{1, 2, 17, 299, 300, 301, 5000, math.MaxInt, 4} {
		must(t, x.Resize(n))
		for i, k := range l {
			v, looked, is := x.Get(k)
			if is != (i%3 != 0) || is && v != i || looked > x.Longest() {
				t.Error(n, i, v, looked, is)
			}
		}
		if x.Longest() > x.Len() || n == 1 && x.Longest() != x.Len() {
			t.Error(n, x.Longest())
		}
	}
}

// TestTwoTables: what is done to one is not done to the other one.
func TestTwoTables(t *testing.T) {
	x, p := laid(t, 9, 3, many(5)...)
	y, q := laid(t, 9, 3, many(7)...)
	must(t, x.Cut(many(5)[0]), y.Set(many(5)[0], 9), x.Resize(2))
	p.cut(many(5)[0])
	p.resize(2)
	q.set(many(5)[0], 9)
	check(t, x, p)
	check(t, y, q)
}

// TestEachTimeAlike: what is told hangs on what was done alone, as often as it is asked.
func TestEachTimeAlike(t *testing.T) {
	var first []pair[int]
	for i := range 50 {
		x, _ := laid(t, 100, 1000, many(100)...)
		must(t, x.Resize(37), x.Resize(11))
		if l := told(x); i == 0 {
			first = l
		} else if !same(l, first) {
			t.Fatal(i)
		}
	}
}
