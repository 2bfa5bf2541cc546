package merkle_test

import (
	"math"
	"strings"
	"testing"

	"rescript/api"
	"rescript/merkle"
	"rescript/shape"
	"rescript/ssz"
)

// holdRoot holds Root against the sentences.
func holdRoot(t *testing.T, typ api.Type, v api.Val) (string, api.Errno) {
	t.Helper()
	want, e := rootOf(typ, v)
	got, found := merkle.Root(typ, v)
	if got != want || found != e {
		t.Errorf("Root(%v, %v) = %x, %v, want %x, %v", typ, brief(v), got, found, want, e)
	}
	return got, found
}

// byHand is a value whose root is told by hand.
type byHand struct {
	name string
	typ  api.Type
	v    api.Val
	root string
}

func holdByHand(t *testing.T, l []byHand) {
	t.Helper()
	for _, x := range l {
		if root, e := holdRoot(t, x.typ, x.v); root != x.root || e != api.OK {
			t.Errorf("%s: %x, %v, want %x", x.name, root, e, x.root)
		}
	}
}

func TestRootsOfPlainValues(t *testing.T) {
	most := uint64(math.MaxUint64)
	holdByHand(t, []byHand{
		{"the chapter's example", uintOf(2), num(1), "\x01\x00" + zeros(30)},
		{"0 of 1 byte", uintOf(1), num(0), zeros(32)},
		{"255 of 1 byte", uintOf(1), num(255), "\xff" + zeros(31)},
		{"258 of 2 bytes", uintOf(2), num(258), "\x02\x01" + zeros(30)},
		{"four bytes", uintOf(4), num(0x04030201), "\x01\x02\x03\x04" + zeros(28)},
		{"eight bytes", uintOf(8), num(0x0807060504030201), "\x01\x02\x03\x04\x05\x06\x07\x08" + zeros(24)},
		{"2^64-1", uintOf(8), num(most), strings.Repeat("\xff", 8) + zeros(24)},
		{"1 of 32 bytes", uintOf(32), num(1), "\x01" + zeros(31)},
		{"2^248 of 32 bytes", uintOf(32), api.Val{Num: api.Word{0, 0, 0, 1 << 56}}, zeros(31) + "\x01"},
		{"2^256-1", uintOf(32), api.Val{Num: api.Word{most, most, most, most}}, strings.Repeat("\xff", 32)},
		{"no", boolean(), num(0), zeros(32)},
		{"yes", boolean(), num(1), "\x01" + zeros(31)},
	})
}

// Items that are plain share chunks; how many chunks there may be is told by N.
func TestRootsOfRowsOfPlainItems(t *testing.T) {
	zero := zeroRoots()
	full := strings.Repeat("\x01\x00\x00\x00", 8)
	twos := strings.Repeat("\x02", 32)
	holdByHand(t, []byHand{
		{"a vector of 1", vector(1, uintOf(2)), nums(1), chunk("\x01")},
		{"a vector of 3", vector(3, uintOf(2)), nums(3), chunk("\x01\x00\x02\x00\x03")},
		{"a vector that fills a chunk", vector(8, uintOf(4)), many(8, num(1)), full},
		{"a vector, one more", vector(9, uintOf(4)), many(9, num(1)), pair(full, chunk("\x01"))},
		{"a vector that fills two", vector(16, uintOf(4)), many(16, num(1)), pair(full, full)},
		{"a vector of three chunks", vector(17, uintOf(4)), many(17, num(1)), pair(pair(full, full), pair(chunk("\x01"), zero[0]))},
		{"a vector of numbers of a chunk each", vector(3, uintOf(32)), nums(3), pair(pair(chunk("\x01"), chunk("\x02")), pair(chunk("\x03"), zero[0]))},
		{"a vector of 32 bytes", vector(32, uintOf(1)), many(32, num(2)), twos},
		{"a vector of 33 bytes", vector(33, uintOf(1)), many(33, num(2)), pair(twos, chunk("\x02"))},
		{"a vector of 4 of 8 bytes", vector(4, uintOf(8)), nums(4), "\x01" + zeros(7) + "\x02" + zeros(7) + "\x03" + zeros(7) + "\x04" + zeros(7)},
		{"a vector of yes and no", vector(3, boolean()), row(num(1), num(0), num(1)), chunk("\x01\x00\x01")},
		{"a vector of 33 times yes", vector(33, boolean()), many(33, num(1)), pair(strings.Repeat("\x01", 32), chunk("\x01"))},
		{"a vector of 512 times no", vector(512, boolean()), many(512, num(0)), zero[4]},
		{"a vector of 512 times 0, of a chunk each", vector(512, uintOf(32)), many(512, num(0)), zero[9]},
		{"a list of none of 1", list(1, uintOf(1)), row(), mixed(zero[0], 0)},
		{"a list of none of 8", list(8, uintOf(4)), row(), mixed(zero[0], 0)},
		{"a list of none of 9", list(9, uintOf(4)), row(), mixed(zero[1], 0)},
		{"a list of none of 17", list(17, uintOf(4)), row(), mixed(zero[2], 0)},
		{"a list of none of 512", list(512, uintOf(32)), row(), mixed(zero[9], 0)},
		{"a list of one of 8", list(8, uintOf(4)), nums(1), mixed(chunk("\x01"), 1)},
		{"a list of one of 9", list(9, uintOf(4)), nums(1), mixed(pair(chunk("\x01"), zero[0]), 1)},
		{"a list of eight of 8", list(8, uintOf(4)), many(8, num(1)), mixed(full, 8)},
		{"a list of eight of 9", list(9, uintOf(4)), many(8, num(1)), mixed(pair(full, zero[0]), 8)},
		{"a list of nine of 9", list(9, uintOf(4)), many(9, num(1)), mixed(pair(full, chunk("\x01")), 9)},
		{"a list of nine of 16", list(16, uintOf(4)), many(9, num(1)), mixed(pair(full, chunk("\x01")), 9)},
		{"a list of nine of 17", list(17, uintOf(4)), many(9, num(1)), mixed(pair(pair(full, chunk("\x01")), zero[1]), 9)},
		{"a list of a 0", list(8, uintOf(4)), row(num(0)), mixed(zero[0], 1)},
		{"a list of two times 0", list(8, uintOf(4)), row(num(0), num(0)), mixed(zero[0], 2)},
		{"a list of a 0 of 512", list(512, uintOf(32)), row(num(0)), mixed(zero[9], 1)},
		{"a list of yes", list(32, boolean()), row(num(1)), mixed(chunk("\x01"), 1)},
		{"a list of yes, of 33", list(33, boolean()), row(num(1)), mixed(pair(chunk("\x01"), zero[0]), 1)},
		{"a list of 255 times 0", list(512, uintOf(1)), many(255, num(0)), mixed(zero[4], 255)},
		{"a list of 512 times 0", list(512, uintOf(1)), many(512, num(0)), pair(zero[4], chunk("\x00\x02"))},
	})
}

// Items that are not plain have roots, and chunks, of their own.
func TestRootsOfRowsOfOtherItems(t *testing.T) {
	zero := zeroRoots()
	a, b, c := chunk("\x01"), chunk("\x02"), chunk("\x03")
	short := list(9, uintOf(4))
	none, one := mixed(zero[1], 0), mixed(pair(a, zero[0]), 1)
	holdByHand(t, []byHand{
		{"a vector of bits", vector(3, bits(8)), row(marks("10000000"), marks("01000000"), marks("11000000")), pair(pair(a, b), pair(c, zero[0]))},
		{"a vector of one", vector(1, bits(8)), row(marks("10000000")), a},
		{"a vector of bit lists", vector(2, bitlist(8)), row(marks("1"), marks("")), pair(mixed(a, 1), mixed(zero[0], 0))},
		{"a vector of containers", vector(2, container(uintOf(1))), row(nums(1), row(num(2))), pair(a, b)},
		{"a vector of vectors", vector(2, vector(2, uintOf(1))), row(nums(2), nums(2)), pair(chunk("\x01\x02"), chunk("\x01\x02"))},
		{"a vector of lists", vector(2, short), row(row(), nums(1)), pair(none, one)},
		{"a vector of unions", vector(2, union(uintOf(1), boolean())), row(pick(1, num(1)), pick(0, num(2))), pair(mixed(a, 1), mixed(b, 0))},
		{"a vector of 5", vector(5, bits(1)), many(5, marks("1")), pair(pair(pair(a, a), pair(a, a)), pair(pair(a, zero[0]), zero[1]))},
		{"a list of no bits", list(2, bits(8)), row(), mixed(zero[1], 0)},
		{"a list of no lists", list(1, short), row(), mixed(zero[0], 0)},
		{"a list of no lists, of 2", list(2, short), row(), mixed(zero[1], 0)},
		{"a list of no lists, of 512", list(512, short), row(), mixed(zero[9], 0)},
		{"a list of lists", list(2, short), row(row(), nums(1)), mixed(pair(none, one), 2)},
		{"a list of lists, of 3", list(3, short), row(row(), nums(1)), mixed(pair(pair(none, one), zero[1]), 2)},
		{"a list of lists, of 4", list(4, short), row(row(), nums(1), row()), mixed(pair(pair(none, one), pair(none, zero[0])), 3)},
		{"a list of containers", list(4, container(uintOf(1))), row(nums(1)), mixed(pair(pair(a, zero[0]), zero[1]), 1)},
		{"a list of bits, of 5", list(5, bits(1)), row(marks("1")), mixed(pair(pair(pair(a, zero[0]), zero[1]), zero[2]), 1)},
		{"a list of zeros", list(2, bits(1)), row(marks("0")), mixed(zero[1], 1)},
		{"a list of 512 zeros", list(512, bits(1)), many(512, marks("0")), pair(zero[9], chunk("\x00\x02"))},
	})
}

func TestRootsOfBits(t *testing.T) {
	zero := zeroRoots()
	full := strings.Repeat("\xff", 32)
	last := zeros(31) + "\x80"
	holdByHand(t, []byHand{
		{"1 bit, no", bits(1), marks("0"), zero[0]},
		{"1 bit, yes", bits(1), marks("1"), chunk("\x01")},
		{"8 bits", bits(8), marks("10000001"), chunk("\x81")},
		{"9 bits", bits(9), marks("010000001"), chunk("\x02\x01")},
		{"255 bits", bits(255), ones(255), strings.Repeat("\xff", 31) + "\x7f"},
		{"256 bits", bits(256), ones(256), full},
		{"256 bits, the last one", bits(256), marks(strings.Repeat("0", 255) + "1"), last},
		{"257 bits", bits(257), ones(257), pair(full, chunk("\x01"))},
		{"257 bits, all no", bits(257), marks(strings.Repeat("0", 257)), zero[1]},
		{"512 bits", bits(512), ones(512), pair(full, full)},
		{"a bit list of none", bitlist(1), marks(""), mixed(zero[0], 0)},
		{"a bit list of no", bitlist(1), marks("0"), mixed(zero[0], 1)},
		{"a bit list of yes", bitlist(1), marks("1"), mixed(chunk("\x01"), 1)},
		{"a bit list of 3", bitlist(8), marks("101"), mixed(chunk("\x05"), 3)},
		{"a bit list of 7", bitlist(8), ones(7), mixed(chunk("\x7f"), 7)},
		{"a bit list of 8", bitlist(8), ones(8), mixed(chunk("\xff"), 8)},
		{"a bit list of 9", bitlist(9), marks("000000001"), mixed(chunk("\x00\x01"), 9)},
		{"a bit list of none of 256", bitlist(256), marks(""), mixed(zero[0], 0)},
		{"a bit list of none of 257", bitlist(257), marks(""), mixed(zero[1], 0)},
		{"a bit list of none of 512", bitlist(512), marks(""), mixed(zero[1], 0)},
		{"a bit list of 1 of 257", bitlist(257), marks("1"), mixed(pair(chunk("\x01"), zero[0]), 1)},
		{"a bit list of 255 of 256", bitlist(256), ones(255), mixed(strings.Repeat("\xff", 31)+"\x7f", 255)},
		{"a bit list of 256 of 256", bitlist(256), ones(256), pair(full, chunk("\x00\x01"))},
		{"a bit list of 256 of 257", bitlist(257), ones(256), pair(pair(full, zero[0]), chunk("\x00\x01"))},
		{"a bit list of 257 of 257", bitlist(257), ones(257), pair(pair(full, chunk("\x01")), chunk("\x01\x01"))},
		{"a bit list of 512 of 512", bitlist(512), ones(512), pair(pair(full, full), chunk("\x00\x02"))},
	})
}

func TestRootsOfContainersAndUnions(t *testing.T) {
	zero := zeroRoots()
	a, b, c := chunk("\x01"), chunk("\x02"), chunk("\x03")
	both := container(uintOf(1), list(2, uintOf(1)), bitlist(3))
	holdByHand(t, []byHand{
		{"a container of one", container(uintOf(2)), row(num(1)), a},
		{"a container of two", container(uintOf(1), uintOf(32)), row(num(1), num(2)), pair(a, b)},
		{"a container of three", container(uintOf(1), uintOf(2), uintOf(4)), nums(3), pair(pair(a, b), pair(c, zero[0]))},
		{"a container of many kinds", both, row(num(3), row(num(1), num(2)), marks("1")), pair(pair(c, mixed(chunk("\x01\x02"), 2)), pair(mixed(a, 1), zero[0]))},
		{"a container of five", container(times(5, boolean())...), many(5, num(1)), pair(pair(pair(a, a), pair(a, a)), pair(pair(a, zero[0]), zero[1]))},
		{"a container of sixteen", container(times(16, uintOf(1))...), many(16, num(0)), zero[4]},
		{"a container of nine", container(times(9, uintOf(1))...), many(9, num(0)), zero[4]},
		{"a container of a container", container(container(uintOf(1), boolean()), uintOf(2)), row(row(num(2), num(1)), num(3)), pair(pair(b, a), c)},
		{"a union's only one", union(uintOf(2)), pick(0, num(1)), mixed(a, 0)},
		{"a union's first one", union(uintOf(2), boolean()), pick(0, num(1)), mixed(a, 0)},
		{"a union's second one", union(uintOf(2), boolean()), pick(1, num(1)), mixed(a, 1)},
		{"a union's list", union(boolean(), list(2, uintOf(1))), pick(1, row(num(1))), mixed(mixed(a, 1), 1)},
		{"a union's container", union(container(boolean(), uintOf(1)), boolean()), pick(0, row(num(1), num(2))), mixed(pair(a, b), 0)},
		{"a union's union", union(boolean(), union(boolean(), uintOf(1))), pick(1, pick(0, num(1))), mixed(mixed(a, 0), 1)},
	})
	for most := 1; most <= 8; most++ {
		for at := range most {
			// At one place alone stands a type that the value is of.
			in := times(most, boolean())
			in[at] = uintOf(2)
			if root, e := holdRoot(t, union(in...), pick(at, num(258))); root != mixed(chunk("\x02\x01"), byte(at)) || e != api.OK {
				t.Errorf("place %d of %d: %x, %v", at, most, root, e)
			}
		}
	}
}

// Six types deep, of which each one is the only one in the one ahead.
func TestRootsSixTypesDeep(t *testing.T) {
	zero := zeroRoots()
	a := chunk("\x01")
	holdByHand(t, []byHand{
		{"containers", container(container(container(container(container(uintOf(1)))))), row(row(row(row(row(num(1)))))), a},
		{"vectors", vector(2, vector(1, vector(1, vector(1, vector(1, uintOf(1)))))), many(2, row(row(row(row(num(1)))))), pair(a, a)},
		{"lists", list(1, list(1, list(1, list(1, list(1, uintOf(1)))))), row(row(row(row(row(num(1)))))), mixed(mixed(mixed(mixed(mixed(a, 1), 1), 1), 1), 1)},
		{"lists, the last one empty", list(1, list(1, list(1, list(1, list(64, uintOf(1)))))), row(row(row(row(row())))), mixed(mixed(mixed(mixed(mixed(zero[1], 0), 1), 1), 1), 1)},
		{"unions", union(union(union(union(union(uintOf(1)))))), pick(0, pick(0, pick(0, pick(0, pick(0, num(1)))))), mixed(mixed(mixed(mixed(mixed(a, 0), 0), 0), 0), 0)},
		{
			"each kind", list(2, container(union(boolean(), vector(2, list(1, bitlist(3)))))),
			row(row(pick(1, row(row(marks("1")), row())))), mixed(pair(mixed(pair(mixed(mixed(a, 1), 1), mixed(zero[0], 0)), 1), zero[0]), 1),
		},
	})
	deep := list(1, list(1, list(1, list(1, list(1, list(1, uintOf(1)))))))
	if root, e := holdRoot(t, deep, row()); root != "" || e != api.ErrDeep {
		t.Errorf("seven: %x, %v", root, e)
	}
}

func TestRootTellsFaults(t *testing.T) {
	for _, x := range []struct {
		name string
		typ  api.Type
		v    api.Val
		e    api.Errno
	}{
		{"no kind", api.Type{}, api.Val{}, api.ErrKind},
		{"kind 9", api.Type{Kind: 9}, api.Val{}, api.ErrKind},
		{"numbers of 3 bytes", uintOf(3), num(1), api.ErrForm},
		{"a vector of 0", vector(0, boolean()), row(), api.ErrForm},
		{"a vector of 513", vector(513, boolean()), many(513, num(1)), api.ErrForm},
		{"a list of no type", list(2), row(), api.ErrForm},
		{"a container of nothing", container(), row(), api.ErrForm},
		{"a union of nine", union(times(9, boolean())...), pick(0, num(1)), api.ErrForm},
		{"no kind in a container", container(boolean(), api.Type{}), row(num(1), num(1)), api.ErrKind},
		{"256 of 1 byte", uintOf(1), num(256), api.ErrForm},
		{"2 of yes and no", boolean(), num(2), api.ErrForm},
		{"a number with bits", uintOf(1), api.Val{Bits: []bool{false}}, api.ErrForm},
		{"a number with a pick", uintOf(1), api.Val{Pick: 1}, api.ErrForm},
		{"a vector, one less", vector(3, uintOf(1)), nums(2), api.ErrForm},
		{"a vector, one more", vector(3, uintOf(1)), nums(4), api.ErrForm},
		{"a list, one more", list(3, uintOf(1)), nums(4), api.ErrLong},
		{"a list of 513", list(512, boolean()), many(513, num(0)), api.ErrLong},
		{"bits, one less", bits(3), ones(2), api.ErrForm},
		{"bits, one more", bits(3), ones(4), api.ErrForm},
		{"a bit list, one more", bitlist(3), ones(4), api.ErrLong},
		{"a bit list of 257 of 256", bitlist(256), ones(257), api.ErrLong},
		{"a container, one less", container(boolean(), boolean()), row(num(1)), api.ErrForm},
		{"a union's place below 0", union(boolean()), pick(-1, num(1)), api.ErrForm},
		{"a union's place behind all", union(boolean()), pick(1, num(1)), api.ErrForm},
		{"a union of nothing", union(boolean()), api.Val{}, api.ErrForm},
		{"a union of two", union(boolean()), row(num(1), num(1)), api.ErrForm},
		{"a list in a vector, too long", vector(2, list(1, boolean())), row(row(), row(num(1), num(1))), api.ErrLong},
		{"the last item of many", vector(512, uintOf(1)), row(append(many(511, num(1)).Items, num(256))...), api.ErrForm},
		{"the first fault is told", container(boolean(), list(1, boolean())), row(num(2), many(2, num(1))), api.ErrForm},
		{"the type's fault first", container(boolean(), api.Type{}), row(num(2)), api.ErrKind},
	} {
		if root, e := holdRoot(t, x.typ, x.v); root != "" || e != x.e {
			t.Errorf("%s: %x, %v, want %v", x.name, root, e, x.e)
		}
	}
	for _, typ := range wrongTypes() {
		for _, v := range []api.Val{{}, num(1), row(num(1)), ones(1)} {
			for _, in := range []api.Type{typ, container(typ), list(1, boolean(), typ), union(boolean(), typ), vector(1, typ)} {
				if root, e := holdRoot(t, in, v); root != "" || e == api.OK {
					t.Errorf("Root(%v, %v) = %x, %v", in, v, root, e)
				}
			}
		}
	}
}

// Of values there are more than may be put: their roots are told all the same.
func TestRootsOfMoreThanMayBePut(t *testing.T) {
	wide := vector(512, vector(129, uintOf(1)))
	v := many(512, many(129, num(7)))
	if _, e := ssz.Put(wide, v); e != api.ErrLong {
		t.Fatal(e)
	}
	if root, e := holdRoot(t, wide, v); len(root) != 32 || e != api.OK {
		t.Errorf("%x, %v", root, e)
	}
	holdRoot(t, list(512, wide.In[0]), v)
	holdRoot(t, container(list(512, wide.In[0]), union(wide)), row(v, pick(0, v)))
	holdRoot(t, list(512, vector(130, uintOf(1))), v)
}

func TestRootsOfAllSorts(t *testing.T) {
	seen := map[api.Errno]int{}
	typesAndVals(1, 6000, func(typ api.Type, v api.Val) {
		_, e := holdRoot(t, typ, v)
		seen[e]++
	})
	for _, e := range []api.Errno{api.OK, api.ErrForm, api.ErrLong, api.ErrKind} {
		if seen[e] < 20 {
			t.Errorf("only %d values are told %v", seen[e], e)
		}
	}
}

// However a value is written, its bytes tell its root.
func TestTheSameBytesHaveTheSameRoot(t *testing.T) {
	held := 0
	typesAndVals(2, 3000, func(typ api.Type, v api.Val) {
		root, e := merkle.Root(typ, v)
		if again, f := merkle.Root(typ, otherwise(v)); again != root || f != e {
			t.Errorf("Root(%v, %v) = %x, %v, and written otherwise %x, %v", typ, brief(v), root, e, again, f)
		}
		s, f := ssz.Put(typ, v)
		if f != api.OK {
			return
		}
		got, _ := ssz.Get(typ, s)
		if again, f := merkle.Root(typ, got); again != root || f != e {
			t.Errorf("Root(%v, %v) = %x, %v, and got of its bytes %x, %v", typ, brief(v), root, e, again, f)
		}
		held++
	})
	if held < 1500 {
		t.Errorf("only %d values are held", held)
	}
}

// Of types that have few values: each has a root of its own.
func TestOtherBytesHaveOtherRoots(t *testing.T) {
	for _, x := range []struct {
		typ  api.Type
		vals int
	}{
		{boolean(), 2},
		{bits(1), 2},
		{bits(9), 512},
		{bitlist(1), 3},
		{bitlist(9), 1023},
		{vector(2, boolean()), 4},
		{vector(2, bitlist(1)), 9},
		{list(3, boolean()), 15},
		{list(2, bits(2)), 21},
		{list(2, list(2, boolean())), 57},
		{list(2, container(boolean(), bits(1))), 21},
		{container(bits(2), bitlist(1), boolean()), 24},
		{container(list(1, list(1, boolean())), list(2, boolean())), 28},
		{union(boolean(), boolean(), bitlist(1), list(1, boolean())), 10},
		{union(union(boolean()), union(boolean(), boolean())), 6},
		{list(2, union(boolean(), bitlist(1))), 31},
	} {
		roots := map[string]api.Val{}
		for _, v := range fewVals(x.typ) {
			root, e := merkle.Root(x.typ, v)
			if other, ok := roots[root]; ok || e != api.OK || len(root) != 32 {
				t.Errorf("%v: %v and %v have the root %x, %v", x.typ, v, other, root, e)
			}
			roots[root] = v
		}
		if len(roots) != x.vals {
			t.Errorf("%v has %d roots, want %d", x.typ, len(roots), x.vals)
		}
	}
}

// fewVals are values of a type, no two alike: all of them, where its numbers are true or false.
func fewVals(t api.Type) []api.Val {
	var l []api.Val
	switch t.Kind {
	case api.TypeUint, api.TypeBool:
		return []api.Val{num(0), num(1)}
	case api.TypeBits:
		return fewBits(t.N)
	case api.TypeBitlist:
		for n := range t.N + 1 {
			l = append(l, fewBits(n)...)
		}
	case api.TypeVector:
		return fewRows(times(t.N, t.In[0]))
	case api.TypeList:
		for n := range t.N + 1 {
			l = append(l, fewRows(times(n, t.In[0]))...)
		}
	case api.TypeContainer:
		return fewRows(t.In)
	case api.TypeUnion:
		for i, in := range t.In {
			for _, v := range fewVals(in) {
				l = append(l, pick(i, v))
			}
		}
	}
	return l
}

func fewBits(n int) []api.Val {
	var l []api.Val
	for _, v := range fewRows(times(n, boolean())) {
		b := api.Val{}
		for _, in := range v.Items {
			b.Bits = append(b.Bits, in.Num[0] == 1)
		}
		l = append(l, b)
	}
	return l
}

func fewRows(in []api.Type) []api.Val {
	if len(in) == 0 {
		return []api.Val{row()}
	}
	var l []api.Val
	for _, first := range fewVals(in[0]) {
		for _, rest := range fewRows(in[1:]) {
			l = append(l, row(append([]api.Val{first}, rest.Items...)...))
		}
	}
	return l
}

// No call changes an argument, and each tells the same again.
func TestRootLeavesItsArguments(t *testing.T) {
	typesAndVals(3, 2000, func(typ api.Type, v api.Val) {
		oldType, oldVal := copyOfType(typ), copyOfVal(v)
		root, e := merkle.Root(typ, v)
		if !shape.Same(v, oldVal) || !sameType(typ, oldType) {
			t.Fatalf("%v, %v are changed to %v, %v", oldType, oldVal, typ, v)
		}
		if again, f := merkle.Root(oldType, oldVal); again != root || f != e {
			t.Errorf("Root(%v, %v) is %x, %v the second time, and was %x, %v", typ, brief(v), again, f, root, e)
		}
	})
}

// A root stays when the value changes, and what is behind a list's end stays too.
func TestRootSharesNothing(t *testing.T) {
	items, marked := []api.Val{num(1), num(2), num(256)}, []bool{true, false, true, true}
	typ := container(list(3, uintOf(1)), bitlist(3), list(4, bitlist(2)))
	v := row(row(items[:2]...), api.Val{Bits: marked[:3]}, row(api.Val{Bits: marked[1:2]}))
	root, e := holdRoot(t, typ, v)
	kept := strings.Clone(root)
	if e != api.OK || !marked[3] || items[2].Num != (api.Word{256}) {
		t.Errorf("%v: what is behind a list's end is %v, %v", e, marked[3], items[2])
	}
	clear(items)
	clear(marked)
	if root != kept {
		t.Errorf("%x has become %x", kept, root)
	}
	if other, e := holdRoot(t, typ, v); other == root || e != api.OK {
		t.Errorf("the changed value's root is %x, %v", other, e)
	}
}

// Whatever it is given, a call ends: also with as many levels as the document speaks of, and with types and values that hold themselves.
func TestRootEndsAtAllArguments(t *testing.T) {
	const levels = 1 << 16
	itself := api.Type{Kind: api.TypeContainer, In: make([]api.Type, 16)}
	for i := range itself.In {
		itself.In[i] = itself
	}
	heldVal := api.Val{Items: make([]api.Val, 1)}
	heldVal.Items[0] = heldVal
	deepType, deepVal := boolean(), num(1)
	for range levels {
		deepType, deepVal = container(deepType), row(deepVal)
	}
	vals := []api.Val{{}, num(1), deepVal, heldVal, many(1<<20, num(1)), ones(1 << 20), {Pick: math.MinInt}, {Pick: math.MaxInt}}
	for _, x := range []struct {
		name string
		typ  api.Type
		e    api.Errno
	}{
		{"as deep as may be", deepType, api.ErrDeep},
		{"one that holds itself", itself, api.ErrDeep},
		{"one of no kind, that holds one that holds itself", api.Type{In: itself.In}, api.ErrKind},
		{"many in a container", container(times(1<<20, boolean())...), api.ErrForm},
		{"a kind below 0", api.Type{Kind: math.MinInt, N: math.MinInt}, api.ErrKind},
		{"a great kind", api.Type{Kind: math.MaxInt, N: math.MaxInt}, api.ErrKind},
		{"a list of too many", list(math.MaxInt, boolean()), api.ErrForm},
		{"bits of too many", bits(math.MaxInt), api.ErrForm},
		{"a vector of less than none", vector(math.MinInt, boolean()), api.ErrForm},
	} {
		for _, v := range vals {
			if root, e := merkle.Root(x.typ, v); root != "" || e != x.e {
				t.Errorf("%s: %x, %v, want %v", x.name, root, e, x.e)
			}
		}
	}
	for _, typ := range []api.Type{
		uintOf(32), boolean(), vector(2, boolean()), list(512, list(1, boolean())), bits(512), bitlist(512),
		container(boolean(), container(boolean())), union(boolean(), container(boolean())), list(1, list(1, list(1, list(1, list(1, boolean()))))),
	} {
		for _, v := range vals {
			holdRoot(t, typ, v)
		}
	}
}
