package shape_test

import (
	"math"
	"math/big"
	"math/rand"
	"slices"
	"testing"

	"rescript/api"
	"rescript/shape"
	"rescript/word"
)

// Types, short.

func uintOf(n int) api.Type { return api.Type{Kind: api.TypeUint, N: n} }

func boolean() api.Type { return api.Type{Kind: api.TypeBool} }

func vector(n int, in ...api.Type) api.Type { return api.Type{Kind: api.TypeVector, N: n, In: in} }

func list(n int, in ...api.Type) api.Type { return api.Type{Kind: api.TypeList, N: n, In: in} }

func bits(n int) api.Type { return api.Type{Kind: api.TypeBits, N: n} }

func bitlist(n int) api.Type { return api.Type{Kind: api.TypeBitlist, N: n} }

func container(in ...api.Type) api.Type { return api.Type{Kind: api.TypeContainer, In: in} }

func union(in ...api.Type) api.Type { return api.Type{Kind: api.TypeUnion, In: in} }

// Values, short.

func num(n uint64) api.Val { return api.Val{Num: word.Of(n)} }

func wide(w ...uint64) api.Val {
	v := api.Val{}
	copy(v.Num[:], w)
	return v
}

func ones(n int) api.Val { return api.Val{Bits: slices.Repeat([]bool{true}, n)} }

func row(items ...api.Val) api.Val { return api.Val{Items: items} }

func pick(n int, items ...api.Val) api.Val { return api.Val{Pick: n, Items: items} }

// many is a row of a value so many times.
func many(n int, v api.Val) api.Val { return row(slices.Repeat([]api.Val{v}, n)...) }

// times is a type so many times.
func times(n int, t api.Type) []api.Type { return slices.Repeat([]api.Type{t}, n) }

// within is a type that stands in so many, each in the one ahead.
func within(types int, t api.Type) api.Type {
	for i := range types {
		switch i % 4 {
		case 0:
			t = container(t)
		case 1:
			t = vector(1, t)
		case 2:
			t = list(2, t)
		case 3:
			t = union(t)
		}
	}
	return t
}

// rowsOf is a value that stands in so many rows of one.
func rowsOf(rows int, v api.Val) api.Val {
	for range rows {
		v = row(v)
	}
	return v
}

// copyOfType and copyOfVal are in memory of their own.
func copyOfType(t api.Type) api.Type {
	own := api.Type{Kind: t.Kind, N: t.N}
	for _, in := range t.In {
		own.In = append(own.In, copyOfType(in))
	}
	return own
}

func copyOfVal(v api.Val) api.Val {
	own := api.Val{Num: v.Num, Bits: slices.Clone(v.Bits), Pick: v.Pick}
	for _, in := range v.Items {
		own.Items = append(own.Items, copyOfVal(in))
	}
	return own
}

func sameType(a, b api.Type) bool {
	return a.Kind == b.Kind && a.N == b.N && slices.EqualFunc(a.In, b.In, sameType)
}

// brief keeps what a failed test tells short.
func brief(v api.Val) api.Val {
	v.Bits, v.Items = v.Bits[:min(len(v.Bits), 4)], v.Items[:min(len(v.Items), 4)]
	return v
}

// The chapter's sentences, a second time: its table first.

// line is a line of the table: what N may be, and how many types may stand in one.
type line struct {
	numbers     []int
	least, most int
}

func lineOf(kind int) (line, bool) {
	upTo512 := numbersTo512[:]
	switch kind {
	case 1:
		return line{[]int{1, 2, 4, 8, 32}, 0, 0}, true
	case 2:
		return line{[]int{0}, 0, 0}, true
	case 3, 4:
		return line{upTo512, 1, 1}, true
	case 5, 6:
		return line{upTo512, 0, 0}, true
	case 7:
		return line{[]int{0}, 1, 16}, true
	case 8:
		return line{[]int{0}, 1, 8}, true
	}
	return line{}, false
}

// numbersTo512 are 1 to 512.
var numbersTo512 = func() (l [512]int) {
	for i := range l {
		l[i] = i + 1
	}
	return l
}()

// checkOf is what Check tells of a type that stands in so many others.
func checkOf(t api.Type, ahead int) api.Errno {
	l, known := lineOf(t.Kind)
	if !known {
		return api.ErrKind
	}
	if !slices.Contains(l.numbers, t.N) || len(t.In) < l.least || len(t.In) > l.most {
		return api.ErrForm
	}
	if ahead >= 6 {
		return api.ErrDeep
	}
	for _, in := range t.In {
		if e := checkOf(in, ahead+1); e != api.OK {
			return e
		}
	}
	return api.OK
}

// sizeOf tells whether a type that Check takes is fixed, and its size.
func sizeOf(t api.Type) (bool, int) {
	switch t.Kind {
	case 1:
		return true, t.N
	case 2:
		return true, 1
	case 5:
		whole, over := t.N/8, t.N%8
		if over > 0 {
			whole++
		}
		return true, whole
	case 3:
		fixed, size := sizeOf(t.In[0])
		return fixed, t.N * size
	case 7:
		all := 0
		for _, in := range t.In {
			fixed, size := sizeOf(in)
			if !fixed {
				return false, 0
			}
			all += size
		}
		return true, all
	}
	return false, 0
}

// bitsOf is how many bits a word's number has.
func bitsOf(w api.Word) int {
	all := new(big.Int)
	for i := range w {
		all.Add(all.Lsh(all, 64), new(big.Int).SetUint64(w[3-i]))
	}
	return all.BitLen()
}

// ownOf is what is wrong with a value itself.
func ownOf(t api.Type, v api.Val) api.Errno {
	if t.Kind == 4 && len(v.Items) > t.N || t.Kind == 6 && len(v.Bits) > t.N {
		return api.ErrLong
	}
	hasNum, hasBits, hasItems, hasPick := v.Num != api.Word{}, len(v.Bits) != 0, len(v.Items) != 0, v.Pick != 0
	ok := false
	switch t.Kind {
	case 1:
		ok = bitsOf(v.Num) <= 8*t.N && !hasBits && !hasItems && !hasPick
	case 2:
		ok = bitsOf(v.Num) <= 1 && !hasBits && !hasItems && !hasPick
	case 3:
		ok = !hasNum && !hasBits && len(v.Items) == t.N && !hasPick
	case 4:
		ok = !hasNum && !hasBits && !hasPick
	case 5:
		ok = !hasNum && len(v.Bits) == t.N && !hasItems && !hasPick
	case 6:
		ok = !hasNum && !hasItems && !hasPick
	case 7:
		ok = !hasNum && !hasBits && len(v.Items) == len(t.In) && !hasPick
	case 8:
		ok = !hasNum && !hasBits && len(v.Items) == 1 && v.Pick >= 0 && v.Pick < len(t.In)
	}
	if !ok {
		return api.ErrForm
	}
	return api.OK
}

// typeOf is the type of an item of a value that is itself as it must be.
func typeOf(t api.Type, v api.Val, place int) api.Type {
	switch t.Kind {
	case 7:
		return t.In[place]
	case 8:
		return t.In[v.Pick]
	}
	return t.In[0]
}

// holdOf is what is wrong with a value of a type that Check takes.
func holdOf(t api.Type, v api.Val) api.Errno {
	if e := ownOf(t, v); e != api.OK {
		return e
	}
	for i, in := range v.Items {
		if e := holdOf(typeOf(t, v, i), in); e != api.OK {
			return e
		}
	}
	return api.OK
}

func fitsOf(t api.Type, v api.Val) api.Errno {
	if e := checkOf(t, 0); e != api.OK {
		return e
	}
	return holdOf(t, v)
}

// sameOf tells whether values are alike.
func sameOf(a, b api.Val) bool {
	if a.Num != b.Num || a.Pick != b.Pick || len(a.Bits) != len(b.Bits) || len(a.Items) != len(b.Items) {
		return false
	}
	for i := range a.Bits {
		if a.Bits[i] != b.Bits[i] {
			return false
		}
	}
	for i := range a.Items {
		if !sameOf(a.Items[i], b.Items[i]) {
			return false
		}
	}
	return true
}

// holdType holds Check, Fixed and Size against the sentences.
func holdType(t *testing.T, typ api.Type) api.Errno {
	t.Helper()
	want := checkOf(typ, 0)
	if e := shape.Check(typ); e != want {
		t.Errorf("Check(%v) = %v, want %v", typ, e, want)
	}
	fixed, size := false, 0
	if want == api.OK {
		fixed, size = sizeOf(typ)
	}
	if got := shape.Fixed(typ); got != fixed {
		t.Errorf("Fixed(%v) = %v", typ, got)
	}
	if got := shape.Size(typ); got != size {
		t.Errorf("Size(%v) = %d, want %d", typ, got, size)
	}
	return want
}

// kinds and counts are numbers that a type's may be, and may not be.
func kinds() []int {
	return []int{math.MinInt, -8, -1, 0, 1, 2, 3, 4, 5, 6, 7, 8, 9, 10, 16, 126, 257, 1<<32 + 1, math.MaxInt}
}

func counts() []int {
	l := []int{math.MinInt, -512, -32, 1<<32 + 1, 1 << 40, math.MaxInt}
	for n := -3; n < 520; n++ {
		l = append(l, n)
	}
	return l
}

func TestTypesAreAsTheTableSays(t *testing.T) {
	seen := map[api.Errno]int{}
	for _, kind := range kinds() {
		for _, n := range counts() {
			for _, in := range []int{0, 1, 2, 7, 8, 9, 15, 16, 17, 33} {
				seen[holdType(t, api.Type{Kind: kind, N: n, In: times(in, uintOf(2))})]++
				// What stands in it is not asked, if it is itself no type.
				seen[holdType(t, api.Type{Kind: kind, N: n, In: times(in, api.Type{Kind: 9})})]++
				seen[holdType(t, api.Type{Kind: kind, N: n, In: times(in, list(3, bits(9)))})]++
			}
		}
	}
	for _, e := range []api.Errno{api.OK, api.ErrForm, api.ErrKind} {
		if seen[e] < 100 {
			t.Errorf("only %d types are told %v", seen[e], e)
		}
	}
}

func TestCheckAtTheEdges(t *testing.T) {
	for _, x := range []struct {
		name string
		typ  api.Type
		e    api.Errno
	}{
		{"nothing", api.Type{}, api.ErrKind},
		{"a kind below 0", api.Type{Kind: -1}, api.ErrKind},
		{"kind 9", api.Type{Kind: 9}, api.ErrKind},
		{"1 byte", uintOf(1), api.OK},
		{"2 bytes", uintOf(2), api.OK},
		{"4 bytes", uintOf(4), api.OK},
		{"8 bytes", uintOf(8), api.OK},
		{"32 bytes", uintOf(32), api.OK},
		{"0 bytes", uintOf(0), api.ErrForm},
		{"3 bytes", uintOf(3), api.ErrForm},
		{"16 bytes", uintOf(16), api.ErrForm},
		{"64 bytes", uintOf(64), api.ErrForm},
		{"-1 bytes", uintOf(-1), api.ErrForm},
		{"a number with a type in it", api.Type{Kind: api.TypeUint, N: 1, In: times(1, uintOf(1))}, api.ErrForm},
		{"yes or no", boolean(), api.OK},
		{"yes or no with a number", api.Type{Kind: api.TypeBool, N: 1}, api.ErrForm},
		{"yes or no with a type in it", api.Type{Kind: api.TypeBool, In: times(1, boolean())}, api.ErrForm},
		{"a vector of 0", vector(0, boolean()), api.ErrForm},
		{"a vector of 1", vector(1, boolean()), api.OK},
		{"a vector of 512", vector(512, boolean()), api.OK},
		{"a vector of 513", vector(513, boolean()), api.ErrForm},
		{"a vector of -1", vector(-1, boolean()), api.ErrForm},
		{"a vector of no type", vector(1), api.ErrForm},
		{"a vector of two types", vector(2, boolean(), boolean()), api.ErrForm},
		{"a list of 0", list(0, boolean()), api.ErrForm},
		{"a list of 1", list(1, boolean()), api.OK},
		{"a list of 512", list(512, boolean()), api.OK},
		{"a list of 513", list(513, boolean()), api.ErrForm},
		{"a list of no type", list(1), api.ErrForm},
		{"a list of two types", list(2, boolean(), boolean()), api.ErrForm},
		{"0 bits", bits(0), api.ErrForm},
		{"1 bit", bits(1), api.OK},
		{"512 bits", bits(512), api.OK},
		{"513 bits", bits(513), api.ErrForm},
		{"bits with a type in them", api.Type{Kind: api.TypeBits, N: 1, In: times(1, boolean())}, api.ErrForm},
		{"a bit list of 0", bitlist(0), api.ErrForm},
		{"a bit list of 1", bitlist(1), api.OK},
		{"a bit list of 512", bitlist(512), api.OK},
		{"a bit list of 513", bitlist(513), api.ErrForm},
		{"a bit list with a type in it", api.Type{Kind: api.TypeBitlist, N: 1, In: times(1, boolean())}, api.ErrForm},
		{"a container of none", container(), api.ErrForm},
		{"a container of 1", container(boolean()), api.OK},
		{"a container of 16", container(times(16, boolean())...), api.OK},
		{"a container of 17", container(times(17, boolean())...), api.ErrForm},
		{"a container with a number", api.Type{Kind: api.TypeContainer, N: 1, In: times(1, boolean())}, api.ErrForm},
		{"a union of none", union(), api.ErrForm},
		{"a union of 1", union(boolean()), api.OK},
		{"a union of 8", union(times(8, boolean())...), api.OK},
		{"a union of 9", union(times(9, boolean())...), api.ErrForm},
		{"a union with a number", api.Type{Kind: api.TypeUnion, N: 1, In: times(1, boolean())}, api.ErrForm},
	} {
		if e := shape.Check(x.typ); e != x.e {
			t.Errorf("%s: %v, want %v", x.name, e, x.e)
		}
		holdType(t, x.typ)
	}
}

// An error is told of the type itself, and then of those in it, in order, each with all in it.
func TestCheckInItsOrder(t *testing.T) {
	noKind, noForm := api.Type{Kind: 9}, uintOf(3)
	noFormNoKind := api.Type{Kind: api.TypeUint, N: 3, In: times(1, noKind)}
	deep := within(6, boolean())
	for _, x := range []struct {
		name string
		typ  api.Type
		e    api.Errno
	}{
		{"no kind ahead of no form", api.Type{Kind: 9, N: -1, In: times(99, noForm)}, api.ErrKind},
		{"no form ahead of no kind in it", container(noFormNoKind), api.ErrForm},
		{"no form ahead of what is in it", vector(0, noKind), api.ErrForm},
		{"no form, for too many in it, ahead of what is in it", container(times(17, noKind)...), api.ErrForm},
		{"no kind on the left", container(noKind, noForm), api.ErrKind},
		{"no form on the left", container(noForm, noKind), api.ErrForm},
		{"a union's no kind on the left", union(boolean(), noKind, noForm), api.ErrKind},
		{"a union's no form on the left", union(boolean(), noForm, noKind), api.ErrForm},
		{"the last one", container(append(times(15, boolean()), noKind)...), api.ErrKind},
		{"the left one's in it ahead of the right one", container(list(1, noForm), noKind), api.ErrForm},
		{"the left one's in it ahead of the right one", container(list(1, noKind), noForm), api.ErrKind},
		{"the right one, the left one being a type", container(list(1, boolean()), noForm, noKind), api.ErrForm},
		{"in 5 types", within(5, boolean()), api.OK},
		{"in 6 types", deep, api.ErrDeep},
		{"in 7 types", within(7, boolean()), api.ErrDeep},
		{"no kind in 6 types", within(6, noKind), api.ErrKind},
		{"no form in 6 types", within(6, noForm), api.ErrForm},
		{"no kind in 7 types", within(7, noKind), api.ErrDeep},
		{"no form in 7 types", within(7, noForm), api.ErrDeep},
		{"no form, ahead of no kind in it, in 6 types", within(6, noFormNoKind), api.ErrForm},
		{"no kind in 5 types", within(5, noKind), api.ErrKind},
		{"too deep on the left of no kind", container(within(5, boolean()), noKind), api.ErrDeep},
		{"no kind on the left of too deep", container(noKind, within(5, boolean())), api.ErrKind},
		{"too deep on the right", container(boolean(), within(5, boolean())), api.ErrDeep},
		{"on the right of deep ones", container(within(4, boolean()), noKind, noForm), api.ErrKind},
		{"two that stand beside each other are not in each other", container(times(16, within(4, boolean()))...), api.OK},
	} {
		if e := shape.Check(x.typ); e != x.e {
			t.Errorf("%s: %v, want %v", x.name, e, x.e)
		}
		if e := holdType(t, x.typ); e != x.e {
			t.Errorf("%s: the sentences tell %v, want %v", x.name, e, x.e)
		}
	}
}

func TestFixedAndSizeAtTheEdges(t *testing.T) {
	for _, x := range []struct {
		name  string
		typ   api.Type
		fixed bool
		size  int
	}{
		{"the chapter's example", vector(3, uintOf(2)), true, 6},
		{"1 byte", uintOf(1), true, 1},
		{"2 bytes", uintOf(2), true, 2},
		{"4 bytes", uintOf(4), true, 4},
		{"8 bytes", uintOf(8), true, 8},
		{"32 bytes", uintOf(32), true, 32},
		{"yes or no", boolean(), true, 1},
		{"1 bit", bits(1), true, 1},
		{"7 bits", bits(7), true, 1},
		{"8 bits", bits(8), true, 1},
		{"9 bits", bits(9), true, 2},
		{"16 bits", bits(16), true, 2},
		{"17 bits", bits(17), true, 3},
		{"505 bits", bits(505), true, 64},
		{"512 bits", bits(512), true, 64},
		{"a vector of 1", vector(1, boolean()), true, 1},
		{"a vector of 512", vector(512, uintOf(32)), true, 16384},
		{"a vector of bits", vector(3, bits(9)), true, 6},
		{"a vector of vectors", vector(3, vector(5, uintOf(4))), true, 60},
		{"a vector of containers", vector(3, container(uintOf(1), uintOf(8))), true, 27},
		{"a container", container(uintOf(1), boolean(), bits(10), vector(2, uintOf(4))), true, 12},
		{"a container of containers", container(container(uintOf(1)), container(uintOf(2), uintOf(4))), true, 7},
		{"one after a vector, beside it", container(vector(9, uintOf(4)), uintOf(1), vector(2, uintOf(2)), boolean()), true, 42},
		{"a container of 16", container(times(16, uintOf(32))...), true, 512},
		{"vectors in vectors, as deep as may be", vector(512, vector(512, vector(512, vector(512, vector(512, uintOf(32)))))), true, 1 << 50},
		{"bits in vectors, as deep as may be", vector(2, vector(3, vector(5, vector(7, vector(11, bits(17)))))), true, 6930},
		{"a list", list(1, boolean()), false, 0},
		{"a bit list", bitlist(8), false, 0},
		{"a union", union(boolean()), false, 0},
		{"a union of types as long as each other", union(uintOf(4), uintOf(4)), false, 0},
		{"a vector of lists", vector(2, list(2, boolean())), false, 0},
		{"a vector of bit lists", vector(2, bitlist(2)), false, 0},
		{"a vector of unions", vector(2, union(boolean())), false, 0},
		{"a container with a list, first", container(list(1, boolean()), boolean()), false, 0},
		{"a container with a list, last", container(boolean(), list(1, boolean())), false, 0},
		{"a container with a union, amid", container(boolean(), union(boolean()), boolean()), false, 0},
		{"a container with a bit list in all", container(vector(2, container(vector(2, container(bitlist(1)))))), false, 0},
		{"a list of vectors", list(2, vector(2, boolean())), false, 0},
		// What Check refuses is not fixed.
		{"nothing", api.Type{}, false, 0},
		{"3 bytes", uintOf(3), false, 0},
		{"yes or no with a number", api.Type{Kind: api.TypeBool, N: 1}, false, 0},
		{"0 bits", bits(0), false, 0},
		{"513 bits", bits(513), false, 0},
		{"-8 bits", bits(-8), false, 0},
		{"a vector of 0", vector(0, boolean()), false, 0},
		{"a vector of -1", vector(-1, boolean()), false, 0},
		{"a vector of no type", vector(1), false, 0},
		{"a vector of two types", vector(2, boolean(), boolean()), false, 0},
		{"a vector of no kind", vector(2, api.Type{Kind: 9}), false, 0},
		{"a container of none", container(), false, 0},
		{"a container of 17", container(times(17, boolean())...), false, 0},
		{"a container with 3 bytes, last", container(boolean(), uintOf(3)), false, 0},
		{"a container too deep", container(container(container(container(container(container(boolean())))))), false, 0},
		{"a container as deep as may be", container(container(container(container(container(boolean()))))), true, 1},
	} {
		if got := shape.Fixed(x.typ); got != x.fixed {
			t.Errorf("%s: Fixed is %v", x.name, got)
		}
		if got := shape.Size(x.typ); got != x.size {
			t.Errorf("%s: Size is %d, want %d", x.name, got, x.size)
		}
		holdType(t, x.typ)
	}
}

func TestFitsAtTheEdges(t *testing.T) {
	for _, x := range []struct {
		name string
		typ  api.Type
		v    api.Val
		e    api.Errno
	}{
		{"0 of 1 byte", uintOf(1), num(0), api.OK},
		{"255 of 1 byte", uintOf(1), num(255), api.OK},
		{"256 of 1 byte", uintOf(1), num(256), api.ErrForm},
		{"65535 of 2 bytes", uintOf(2), num(65535), api.OK},
		{"65536 of 2 bytes", uintOf(2), num(65536), api.ErrForm},
		{"2^32-1 of 4 bytes", uintOf(4), num(1<<32 - 1), api.OK},
		{"2^32 of 4 bytes", uintOf(4), num(1 << 32), api.ErrForm},
		{"2^64-1 of 8 bytes", uintOf(8), num(math.MaxUint64), api.OK},
		{"2^64 of 8 bytes", uintOf(8), wide(0, 1), api.ErrForm},
		{"2^192 of 8 bytes", uintOf(8), wide(0, 0, 0, 1), api.ErrForm},
		{"2^192 of 1 byte", uintOf(1), wide(0, 0, 0, 1), api.ErrForm},
		{"2^64 of 32 bytes", uintOf(32), wide(0, 1), api.OK},
		{"2^256-1 of 32 bytes", uintOf(32), wide(math.MaxUint64, math.MaxUint64, math.MaxUint64, math.MaxUint64), api.OK},
		{"a number with a bit", uintOf(1), api.Val{Bits: []bool{false}}, api.ErrForm},
		{"a number with an item", uintOf(1), row(num(0)), api.ErrForm},
		{"a number with a pick", uintOf(1), pick(1), api.ErrForm},
		{"a number with a pick below 0", uintOf(1), pick(-1), api.ErrForm},
		{"no", boolean(), num(0), api.OK},
		{"yes", boolean(), num(1), api.OK},
		{"neither", boolean(), num(2), api.ErrForm},
		{"neither, 256", boolean(), num(256), api.ErrForm},
		{"neither, 2^64", boolean(), wide(0, 1), api.ErrForm},
		{"neither, 2^64 and 1", boolean(), wide(1, 1), api.ErrForm},
		{"yes with a bit", boolean(), api.Val{Num: word.Of(1), Bits: []bool{true}}, api.ErrForm},
		{"yes with an item", boolean(), api.Val{Num: word.Of(1), Items: []api.Val{num(1)}}, api.ErrForm},
		{"yes with a pick", boolean(), api.Val{Num: word.Of(1), Pick: 1}, api.ErrForm},
		{"a vector with one less", vector(3, boolean()), many(2, num(1)), api.ErrForm},
		{"a vector", vector(3, boolean()), many(3, num(1)), api.OK},
		{"a vector with one more", vector(3, boolean()), many(4, num(1)), api.ErrForm},
		{"a vector with none", vector(3, boolean()), row(), api.ErrForm},
		{"a vector with a number", vector(1, boolean()), api.Val{Num: word.Of(1), Items: []api.Val{num(1)}}, api.ErrForm},
		{"a vector with a bit", vector(1, boolean()), api.Val{Bits: []bool{false}, Items: []api.Val{num(1)}}, api.ErrForm},
		{"a vector with a pick", vector(1, boolean()), pick(1, num(1)), api.ErrForm},
		{"a vector of 512", vector(512, uintOf(8)), many(512, num(7)), api.OK},
		{"a vector of 512, the last one wrong", vector(512, uintOf(1)), row(append(slices.Repeat([]api.Val{num(7)}, 511), num(256))...), api.ErrForm},
		{"a list of none", list(3, boolean()), row(), api.OK},
		{"a list of fewer", list(3, boolean()), many(2, num(1)), api.OK},
		{"a list of all", list(3, boolean()), many(3, num(1)), api.OK},
		{"a list of one more", list(3, boolean()), many(4, num(1)), api.ErrLong},
		{"a list with a number", list(3, boolean()), num(1), api.ErrForm},
		{"a list with bits", list(3, boolean()), ones(1), api.ErrForm},
		{"a list with more than N bits, that it has not", list(3, boolean()), ones(4), api.ErrForm},
		{"a list with a pick", list(3, boolean()), pick(1), api.ErrForm},
		{"a list of 512", list(512, uintOf(8)), many(512, num(7)), api.OK},
		{"a list of 513", list(512, uintOf(8)), many(513, num(7)), api.ErrLong},
		{"bits, one less", bits(9), ones(8), api.ErrForm},
		{"bits", bits(9), ones(9), api.OK},
		{"bits, one more", bits(9), ones(10), api.ErrForm},
		{"bits that are all no", bits(9), api.Val{Bits: make([]bool, 9)}, api.OK},
		{"bits with a number", bits(1), api.Val{Num: word.Of(1), Bits: []bool{true}}, api.ErrForm},
		{"bits with an item", bits(1), api.Val{Bits: []bool{true}, Items: []api.Val{{}}}, api.ErrForm},
		{"bits with a pick", bits(1), api.Val{Bits: []bool{true}, Pick: -1}, api.ErrForm},
		{"a bit list of none", bitlist(9), ones(0), api.OK},
		{"a bit list of all", bitlist(9), ones(9), api.OK},
		{"a bit list of one more", bitlist(9), ones(10), api.ErrLong},
		{"a bit list of 512", bitlist(512), ones(512), api.OK},
		{"a bit list of 513", bitlist(512), ones(513), api.ErrLong},
		{"a bit list with a number", bitlist(9), num(1), api.ErrForm},
		{"a bit list with an item", bitlist(9), row(num(0)), api.ErrForm},
		{"a bit list with more than N items, that it has not", bitlist(1), many(2, num(0)), api.ErrForm},
		{"a bit list with a pick", bitlist(9), pick(1), api.ErrForm},
		{"a container", container(uintOf(1), boolean()), row(num(255), num(1)), api.OK},
		{"a container, its items the wrong way round", container(uintOf(1), boolean()), row(num(1), num(255)), api.ErrForm},
		{"a container with one less", container(uintOf(1), boolean()), row(num(0)), api.ErrForm},
		{"a container with one more", container(uintOf(1), boolean()), many(3, num(0)), api.ErrForm},
		{"a container with none", container(uintOf(1), boolean()), row(), api.ErrForm},
		{"a container with a number", container(boolean()), api.Val{Num: word.Of(1), Items: []api.Val{num(0)}}, api.ErrForm},
		{"a container with a bit", container(boolean()), api.Val{Bits: []bool{true}, Items: []api.Val{num(0)}}, api.ErrForm},
		{"a container with a pick", container(boolean(), boolean()), pick(1, num(0), num(0)), api.ErrForm},
		{"a union's first", union(uintOf(1), bits(2)), pick(0, num(255)), api.OK},
		{"a union's last", union(uintOf(1), bits(2)), pick(1, ones(2)), api.OK},
		{"a union's first, of the last type", union(uintOf(1), bits(2)), pick(0, ones(2)), api.ErrForm},
		{"a union's last, of the first type", union(uintOf(1), bits(2)), pick(1, num(255)), api.ErrForm},
		{"a union's place behind the last", union(uintOf(1), uintOf(2)), pick(2, num(0)), api.ErrForm},
		{"a union's place below 0", union(uintOf(1), uintOf(2)), pick(-1, num(0)), api.ErrForm},
		{"a union's least place", union(uintOf(1), uintOf(2)), pick(math.MinInt, num(0)), api.ErrForm},
		{"a union's greatest place", union(uintOf(1), uintOf(2)), pick(math.MaxInt, num(0)), api.ErrForm},
		{"a union's place of none", union(uintOf(1), uintOf(2)), pick(1), api.ErrForm},
		{"a union's place of two", union(uintOf(1), uintOf(2)), pick(1, num(0), num(0)), api.ErrForm},
		{"a union with a number", union(uintOf(1)), api.Val{Num: word.Of(1), Items: []api.Val{num(0)}}, api.ErrForm},
		{"a union with a bit", union(uintOf(1)), api.Val{Bits: []bool{true}, Items: []api.Val{num(0)}}, api.ErrForm},
		{"a union's eighth", union(append(times(7, uintOf(1)), uintOf(2))...), pick(7, num(256)), api.OK},
		{"a union's seventh", union(append(times(7, uintOf(1)), uintOf(2))...), pick(6, num(256)), api.ErrForm},
		{"nothing of nothing", api.Type{}, api.Val{}, api.ErrKind},
		{"0 of 3 bytes", uintOf(3), num(0), api.ErrForm},
	} {
		if e := shape.Fits(x.typ, x.v); e != x.e {
			t.Errorf("%s: %v, want %v", x.name, e, x.e)
		}
		if e := fitsOf(x.typ, x.v); e != x.e {
			t.Errorf("%s: the sentences tell %v, want %v", x.name, e, x.e)
		}
	}
}

// An error is told of the type, then of the value itself, and then of those in it, in order, each with all in it.
func TestFitsInItsOrder(t *testing.T) {
	long := many(3, num(0))
	lists := list(2, list(2, uintOf(1)))
	pair := container(list(2, uintOf(1)), uintOf(1))
	for _, x := range []struct {
		name string
		typ  api.Type
		v    api.Val
		e    api.Errno
	}{
		{"the type's no kind ahead of too many", list(2, api.Type{}), long, api.ErrKind},
		{"the type's no form ahead of too many", list(2, uintOf(3)), long, api.ErrForm},
		{"the type too deep ahead of too many", within(6, boolean()), long, api.ErrDeep},
		{"the union's other type is asked too", union(uintOf(1), api.Type{}), pick(0, num(1)), api.ErrKind},
		{"the list's type is asked without items too", list(2, api.Type{}), row(), api.ErrKind},
		{"too many ahead of a number", list(2, boolean()), api.Val{Num: word.Of(1), Items: long.Items}, api.ErrLong},
		{"too many ahead of bits", list(2, boolean()), api.Val{Bits: []bool{true}, Items: long.Items}, api.ErrLong},
		{"too many ahead of a pick", list(2, boolean()), pick(1, long.Items...), api.ErrLong},
		{"too many ahead of what is in it", list(2, boolean()), many(3, num(2)), api.ErrLong},
		{"too many bits ahead of a number", bitlist(2), api.Val{Num: word.Of(1), Bits: make([]bool, 3)}, api.ErrLong},
		{"too many bits ahead of items", bitlist(2), api.Val{Bits: make([]bool, 3), Items: long.Items}, api.ErrLong},
		{"too many bits ahead of a pick", bitlist(2), api.Val{Bits: make([]bool, 3), Pick: 1}, api.ErrLong},
		{"a number ahead of too many in it", lists, api.Val{Num: word.Of(1), Items: []api.Val{long}}, api.ErrForm},
		{"bits ahead of too many in it", lists, api.Val{Bits: []bool{true}, Items: []api.Val{long}}, api.ErrForm},
		{"a pick ahead of too many in it", lists, pick(1, long), api.ErrForm},
		{"a vector's count ahead of too many in it", vector(2, list(2, uintOf(1))), row(long), api.ErrForm},
		{"a vector's number ahead of too many in it", vector(1, list(2, uintOf(1))), api.Val{Num: word.Of(1), Items: []api.Val{long}}, api.ErrForm},
		{"a container's count ahead of too many in it", pair, row(long), api.ErrForm},
		{"a container's pick ahead of too many in it", pair, pick(1, long, num(0)), api.ErrForm},
		{"a union's place ahead of too many in it", union(list(2, uintOf(1))), pick(1, long), api.ErrForm},
		{"a union's count ahead of too many in it", union(list(2, uintOf(1))), pick(0, long, long), api.ErrForm},
		{"too many on the left of no form", pair, row(long, num(256)), api.ErrLong},
		{"no form on the left of too many", container(uintOf(1), list(2, uintOf(1))), row(num(256), long), api.ErrForm},
		{"no form in the left one ahead of too many on the right", lists, row(row(num(0), num(256)), long), api.ErrForm},
		{"too many on the left of no form in the right one", lists, row(long, row(num(256))), api.ErrLong},
		{"no form in the left one's last", lists, row(row(num(0), num(256)), row(num(0))), api.ErrForm},
		{"too many in the right one alone", lists, row(row(num(0), num(255)), long), api.ErrLong},
		{"too many ahead of too many bits", container(bitlist(1), list(1, boolean())), row(ones(2), many(2, num(2))), api.ErrLong},
		{"all of the left one ahead of the right one", container(list(2, list(2, list(2, boolean()))), bitlist(1)), row(row(row(row(num(2)))), ones(2)), api.ErrForm},
		{"all of the left one, the other way round", container(list(2, list(2, bitlist(1))), boolean()), row(row(row(ones(2))), num(2)), api.ErrLong},
	} {
		if e := shape.Fits(x.typ, x.v); e != x.e {
			t.Errorf("%s: %v, want %v", x.name, e, x.e)
		}
		if e := fitsOf(x.typ, x.v); e != x.e {
			t.Errorf("%s: the sentences tell %v, want %v", x.name, e, x.e)
		}
	}
}

// Each kind with values that have, or have not, each of the parts.
func TestValuesAreAsTheTableSays(t *testing.T) {
	nums := []api.Word{{}, {1}, {2}, {255}, {256}, {1 << 63}, {0, 1}, {0, 0, 1}, {0, 0, 0, 1 << 63}}
	types := []api.Type{
		uintOf(1), uintOf(8), uintOf(32), boolean(), vector(2, boolean()), list(2, boolean()), bits(2), bitlist(2),
		container(boolean(), boolean()), union(boolean(), boolean(), boolean()), uintOf(3), list(0, boolean()), {},
	}
	seen := map[api.Errno]int{}
	for _, typ := range types {
		for _, n := range nums {
			for bits := range 4 {
				for items := range 4 {
					for _, pick := range []int{math.MinInt, -1, 0, 1, 2, 3, math.MaxInt} {
						for _, in := range []api.Val{num(1), num(2)} {
							v := many(items, in)
							v.Num, v.Bits, v.Pick = n, make([]bool, bits), pick
							want := fitsOf(typ, v)
							seen[want]++
							if e := shape.Fits(typ, v); e != want {
								t.Errorf("Fits(%v, %v) = %v, want %v", typ, v, e, want)
							}
						}
					}
				}
			}
		}
	}
	for _, e := range []api.Errno{api.OK, api.ErrForm, api.ErrLong, api.ErrKind} {
		if seen[e] < 20 {
			t.Errorf("only %d values are told %v", seen[e], e)
		}
	}
}

// sampleType is a type that stands in so many others at most; of a spoiled one something may be wrong.
func sampleType(r *rand.Rand, deep int, spoiled bool) api.Type {
	if spoiled && r.Intn(40) == 0 {
		return []api.Type{
			{}, {Kind: 9}, {Kind: -1}, uintOf(3), {Kind: api.TypeBool, N: 1}, vector(0, boolean()), vector(513, boolean()),
			list(2), bits(0), bitlist(513), container(), union(times(9, boolean())...), vector(1, boolean(), boolean()),
		}[r.Intn(13)]
	}
	count := []int{1, 2, 3, 7, 8, 9, 17}[r.Intn(7)]
	if deep == 0 || r.Intn(4) == 0 {
		return []api.Type{uintOf([]int{1, 2, 4, 8, 32}[r.Intn(5)]), boolean(), bits(count), bitlist(count)}[r.Intn(4)]
	}
	in := []api.Type{sampleType(r, deep-1, spoiled)}
	switch r.Intn(4) {
	case 0:
		return vector(1+r.Intn(3), in...)
	case 1:
		return list(1+r.Intn(3), in...)
	}
	for range r.Intn(3) {
		in = append(in, sampleType(r, deep-1, spoiled))
	}
	if r.Intn(2) == 0 {
		return union(in...)
	}
	return container(in...)
}

// sampleVal is a value of a type that Check takes.
func sampleVal(r *rand.Rand, t api.Type) api.Val {
	v := api.Val{}
	items := 0
	switch t.Kind {
	case api.TypeUint:
		for i := range t.N {
			v.Num[i/8] |= uint64([]int{0, 1, 128, 255}[r.Intn(4)]) << (i % 8 * 8)
		}
	case api.TypeBool:
		v.Num[0] = uint64(r.Intn(2))
	case api.TypeVector:
		items = t.N
	case api.TypeList:
		items = r.Intn(t.N + 1)
	case api.TypeBits:
		v.Bits = sampleBits(r, t.N)
	case api.TypeBitlist:
		v.Bits = sampleBits(r, r.Intn(t.N+1))
	case api.TypeContainer:
		items = len(t.In)
	case api.TypeUnion:
		v.Pick, items = r.Intn(len(t.In)), 1
	}
	for i := range items {
		v.Items = append(v.Items, sampleVal(r, typeOf(t, v, i)))
	}
	return v
}

func sampleBits(r *rand.Rand, n int) []bool {
	l := make([]bool, n)
	for i := range l {
		l[i] = r.Intn(2) == 1
	}
	return l
}

// spoil changes one part of a value, or of one in it, so that it is another value.
func spoil(r *rand.Rand, v *api.Val) {
	if len(v.Items) > 0 && r.Intn(3) > 0 {
		spoil(r, &v.Items[r.Intn(len(v.Items))])
		return
	}
	switch r.Intn(7) {
	case 0:
		v.Num[r.Intn(4)] ^= 1 << r.Intn(64)
	case 1:
		v.Pick += 1 - 2*r.Intn(2)
	case 2:
		v.Bits = append(v.Bits, r.Intn(2) == 1)
	case 3:
		v.Items = append(v.Items, num(uint64(r.Intn(3))))
	case 4:
		if len(v.Bits) == 0 {
			v.Num[0] ^= 1
			return
		}
		v.Bits[r.Intn(len(v.Bits))] = !v.Bits[0]
	case 5:
		v.Bits = v.Bits[:max(len(v.Bits), 1)-1]
	case 6:
		v.Items = v.Items[:max(len(v.Items), 1)-1]
	}
}

func TestTypesOfAllSorts(t *testing.T) {
	r := rand.New(rand.NewSource(1))
	seen, fixed := map[api.Errno]int{}, 0
	for i := range 20000 {
		typ := sampleType(r, 1+i%8, i%2 == 0)
		if holdType(t, typ) == api.OK && shape.Fixed(typ) {
			fixed++
		}
		seen[checkOf(typ, 0)]++
	}
	for _, e := range []api.Errno{api.OK, api.ErrKind, api.ErrForm, api.ErrDeep} {
		if seen[e] < 200 {
			t.Errorf("only %d types are told %v", seen[e], e)
		}
	}
	if fixed < 200 {
		t.Errorf("only %d types are fixed", fixed)
	}
}

// typesAndVals hands each of many types, with a value, and what the sentences tell of that.
func typesAndVals(seed int64, each func(typ api.Type, v api.Val, want api.Errno)) {
	r := rand.New(rand.NewSource(seed))
	for i := range 20000 {
		typ := sampleType(r, i%6, i%4 == 0)
		v := num(uint64(i % 300))
		if checkOf(typ, 0) == api.OK {
			v = sampleVal(r, typ)
		}
		for range i % 3 {
			spoil(r, &v)
		}
		each(typ, v, fitsOf(typ, v))
	}
}

func TestValuesOfAllSorts(t *testing.T) {
	seen := map[api.Errno]int{}
	typesAndVals(2, func(typ api.Type, v api.Val, want api.Errno) {
		seen[want]++
		if e := shape.Fits(typ, v); e != want {
			t.Errorf("Fits(%v, %v) = %v, want %v", typ, v, e, want)
		}
	})
	for _, e := range []api.Errno{api.OK, api.ErrForm, api.ErrLong, api.ErrKind} {
		if seen[e] < 50 {
			t.Errorf("only %d values are told %v", seen[e], e)
		}
	}
}

// A value that fits does so part by part: as many and as great as its type says, and each item fits its own type.
func TestWhatFitsDoesSoPartByPart(t *testing.T) {
	parts := 0
	var hold func(typ api.Type, v api.Val)
	hold = func(typ api.Type, v api.Val) {
		if e := shape.Fits(typ, v); e != api.OK {
			t.Errorf("a part, %v, does not fit %v: %v", v, typ, e)
		}
		if e := ownOf(typ, v); e != api.OK {
			t.Errorf("%v fits %v, of which it is no value: %v", v, typ, e)
		}
		for i, in := range v.Items {
			parts++
			hold(typeOf(typ, v, i), in)
		}
	}
	typesAndVals(3, func(typ api.Type, v api.Val, _ api.Errno) {
		if shape.Fits(typ, v) == api.OK {
			hold(typ, v)
		}
	})
	if parts < 10000 {
		t.Errorf("only %d parts", parts)
	}
}

// And the other way round: with one part that does not fit, the whole does not.
func TestNothingFitsWithAPartThatDoesNot(t *testing.T) {
	whole := container(list(2, union(bits(2), vector(2, uintOf(1)))), bitlist(3), boolean())
	good := func() api.Val {
		return row(row(pick(0, ones(2)), pick(1, row(num(1), num(2)))), ones(1), num(1))
	}
	if e := shape.Fits(whole, good()); e != api.OK {
		t.Fatal(e)
	}
	spoils := 0
	var parts func(v *api.Val, whole func() api.Errno)
	parts = func(v *api.Val, fits func() api.Errno) {
		own := *v
		for _, bad := range []api.Val{
			{Num: api.Word{256}, Bits: own.Bits, Items: own.Items, Pick: own.Pick},
			{Num: api.Word{0, 0, 0, 1}, Bits: own.Bits, Items: own.Items, Pick: own.Pick},
			{Num: own.Num, Bits: make([]bool, 4), Items: own.Items, Pick: own.Pick},
			{Num: own.Num, Bits: own.Bits, Items: make([]api.Val, 4), Pick: own.Pick},
			{Num: own.Num, Bits: own.Bits, Items: own.Items, Pick: 2},
			{Num: own.Num, Bits: own.Bits, Items: own.Items, Pick: -1},
		} {
			spoils++
			*v = bad
			if fits() == api.OK {
				t.Errorf("it fits with %v in it", bad)
			}
		}
		*v = own
		for i := range v.Items {
			parts(&v.Items[i], fits)
		}
	}
	v := good()
	parts(&v, func() api.Errno { return shape.Fits(whole, v) })
	if spoils != 60 {
		t.Errorf("%d parts are changed", spoils)
	}
	if !shape.Same(v, good()) {
		t.Error("the value is changed")
	}
}

// lengthOf is how many bytes a value of a fixed type has (chapter 8).
func lengthOf(t api.Type, v api.Val) int {
	switch t.Kind {
	case api.TypeUint:
		return t.N
	case api.TypeBool:
		return 1
	case api.TypeBits:
		bytes := map[int]int{}
		for i := range v.Bits {
			bytes[i/8]++
		}
		return len(bytes)
	}
	all := 0
	for i, in := range v.Items {
		all += lengthOf(typeOf(t, v, i), in)
	}
	return all
}

// All values of a type that is fixed have its Size.
func TestSizeIsThatOfAllValues(t *testing.T) {
	held := 0
	typesAndVals(4, func(typ api.Type, v api.Val, want api.Errno) {
		if want == api.OK && shape.Fixed(typ) {
			held++
			if n := lengthOf(typ, v); shape.Size(typ) != n {
				t.Errorf("%v, of %v, has %d bytes, want %d", v, typ, n, shape.Size(typ))
			}
		}
	})
	if held < 1000 {
		t.Errorf("only %d values are held", held)
	}
}

func TestSameAtTheEdges(t *testing.T) {
	all := []api.Val{
		{}, num(1), num(2), wide(0, 1), wide(0, 0, 1), wide(0, 0, 0, 1), wide(1, 1), pick(1), pick(-1), pick(2),
		{Bits: []bool{false}}, {Bits: []bool{true}}, {Bits: []bool{false, false}}, {Bits: []bool{false, true}},
		{Bits: []bool{true, false}}, {Bits: []bool{true, true}}, ones(9), ones(512),
		row(num(0)), row(num(1)), row(num(0), num(0)), row(num(0), num(1)), row(num(1), num(0)), row(pick(1)), row(ones(1)),
		row(row(num(0))), row(row(num(1))), row(row(), row(num(1))), row(row(num(1)), row()),
		pick(1, num(0)), pick(1, num(1)), pick(2, num(0)), many(512, num(7)), many(513, num(7)),
		{Num: api.Word{1}, Bits: []bool{true}, Items: []api.Val{{}}, Pick: 1},
		{Num: api.Word{2}, Bits: []bool{true}, Items: []api.Val{{}}, Pick: 1},
		{Num: api.Word{1}, Bits: []bool{false}, Items: []api.Val{{}}, Pick: 1},
		{Num: api.Word{1}, Bits: []bool{true}, Items: []api.Val{{Pick: 1}}, Pick: 1},
		{Num: api.Word{1}, Bits: []bool{true}, Items: []api.Val{{}}, Pick: 2},
	}
	for i, a := range all {
		for j, b := range all {
			if got := shape.Same(a, copyOfVal(b)); got != (i == j) {
				t.Errorf("Same(%v, %v) = %v", brief(a), brief(b), got)
			}
		}
	}
}

func TestSameOfAllSorts(t *testing.T) {
	r := rand.New(rand.NewSource(5))
	alike, others := 0, 0
	last := api.Val{}
	typesAndVals(6, func(_ api.Type, v api.Val, _ api.Errno) {
		other := copyOfVal(v)
		if !shape.Same(v, other) {
			t.Errorf("%v is not the same as its copy", v)
		}
		spoil(r, &other)
		for _, b := range []api.Val{other, last} {
			want := sameOf(v, b)
			if shape.Same(v, b) != want || shape.Same(b, v) != want {
				t.Errorf("Same(%v, %v) is not %v", v, b, want)
			}
			if want {
				alike++
			} else {
				others++
			}
		}
		last = v
	})
	if alike < 100 || others < 10000 {
		t.Errorf("%d are alike, %d are not", alike, others)
	}
}

// No call changes an argument, and each tells the same again.
func TestArgumentsStayAndAnswersToo(t *testing.T) {
	typesAndVals(7, func(typ api.Type, v api.Val, _ api.Errno) {
		oldType, oldVal := copyOfType(typ), copyOfVal(v)
		for range 2 {
			check, fixed, size, fits := shape.Check(typ), shape.Fixed(typ), shape.Size(typ), shape.Fits(typ, v)
			if !shape.Same(v, oldVal) || !sameOf(v, oldVal) {
				t.Fatalf("%v is changed to %v", oldVal, v)
			}
			if !sameType(typ, oldType) {
				t.Fatalf("%v is changed to %v", oldType, typ)
			}
			if check != shape.Check(oldType) || fixed != shape.Fixed(oldType) || size != shape.Size(oldType) || fits != shape.Fits(oldType, oldVal) {
				t.Errorf("%v, %v are told otherwise the second time", typ, v)
			}
		}
	})
}

// What stands behind a list's end, in its memory, is not looked at and not changed.
func TestBehindAListIsNothing(t *testing.T) {
	types := []api.Type{uintOf(1), uintOf(3), {}}
	if e := shape.Check(container(types[:1]...)); e != api.OK {
		t.Error(e)
	}
	items, bits := []api.Val{num(1), num(2), num(256)}, []bool{true, false, true}
	if e := shape.Fits(vector(2, uintOf(1)), row(items[:2]...)); e != api.OK {
		t.Error(e)
	}
	if e := shape.Fits(bitlist(2), api.Val{Bits: bits[:2]}); e != api.OK {
		t.Error(e)
	}
	if !shape.Same(api.Val{Items: items[:1], Bits: bits[:1]}, api.Val{Items: []api.Val{num(1)}, Bits: []bool{true}}) {
		t.Error("not the same")
	}
	if types[1].N != 3 || !sameOf(row(items...), row(num(1), num(2), num(256))) || !slices.Equal(bits, []bool{true, false, true}) {
		t.Error("changed", types, items, bits)
	}
}

// nil or empty is never asked.
func TestListsWithoutThingsAreNilOrEmpty(t *testing.T) {
	for _, in := range [][]api.Type{nil, {}} {
		for _, x := range []struct {
			typ api.Type
			e   api.Errno
		}{
			{api.Type{Kind: api.TypeUint, N: 1, In: in}, api.OK},
			{api.Type{Kind: api.TypeBool, In: in}, api.OK},
			{api.Type{Kind: api.TypeBits, N: 1, In: in}, api.OK},
			{api.Type{Kind: api.TypeBitlist, N: 1, In: in}, api.OK},
			{api.Type{Kind: api.TypeVector, N: 1, In: in}, api.ErrForm},
			{api.Type{Kind: api.TypeList, N: 1, In: in}, api.ErrForm},
			{api.Type{Kind: api.TypeContainer, In: in}, api.ErrForm},
			{api.Type{Kind: api.TypeUnion, In: in}, api.ErrForm},
			{api.Type{In: in}, api.ErrKind},
		} {
			if e := shape.Check(x.typ); e != x.e {
				t.Errorf("Check(%v) = %v, want %v", x.typ, e, x.e)
			}
		}
	}
	for _, bits := range [][]bool{nil, {}} {
		for _, items := range [][]api.Val{nil, {}} {
			v := api.Val{Num: api.Word{1}, Bits: bits, Items: items}
			if e := shape.Fits(uintOf(1), v); e != api.OK {
				t.Error(e)
			}
			if e := shape.Fits(boolean(), v); e != api.OK {
				t.Error(e)
			}
			if !shape.Same(v, num(1)) || !shape.Same(num(1), v) || !shape.Same(row(v), row(num(1))) {
				t.Error("nil is not the same as empty")
			}
			v.Num = api.Word{}
			for _, typ := range []api.Type{list(1, boolean()), bitlist(1)} {
				if e := shape.Fits(typ, v); e != api.OK {
					t.Errorf("Fits(%v, %v) = %v", typ, v, e)
				}
			}
			v.Items = many(1, v).Items
			if e := shape.Fits(vector(1, list(1, boolean())), v); e != api.OK {
				t.Error(e)
			}
			if e := shape.Fits(union(bitlist(1)), v); e != api.OK {
				t.Error(e)
			}
		}
	}
}

// Whatever it is given, a call ends: also with as many levels as the document speaks of, and with types that hold themselves.
func TestAllEndsAtAllArguments(t *testing.T) {
	const levels = 1 << 16
	deepVal := rowsOf(levels, num(1))
	itself := api.Type{Kind: api.TypeContainer, In: make([]api.Type, 16)}
	for i := range itself.In {
		itself.In[i] = itself
	}
	wrong := api.Type{Kind: api.TypeUint, In: itself.In}
	for _, x := range []struct {
		name string
		typ  api.Type
		e    api.Errno
	}{
		{"as deep as may be", within(levels, boolean()), api.ErrDeep},
		{"one that holds itself", itself, api.ErrDeep},
		{"one that is wrong, and holds one that holds itself", wrong, api.ErrForm},
		{"one of no kind, that holds one that holds itself", api.Type{In: itself.In}, api.ErrKind},
		{"one that is wrong beside one that holds itself", container(uintOf(3), itself), api.ErrForm},
		{"many in a list", list(1, times(1<<20, boolean())...), api.ErrForm},
		{"many in a container", container(times(1<<20, boolean())...), api.ErrForm},
	} {
		if e := shape.Check(x.typ); e != x.e {
			t.Errorf("%s: Check is %v, want %v", x.name, e, x.e)
		}
		if shape.Fixed(x.typ) || shape.Size(x.typ) != 0 {
			t.Errorf("%s: Fixed is %v, Size is %d", x.name, shape.Fixed(x.typ), shape.Size(x.typ))
		}
		for _, v := range []api.Val{{}, num(1), deepVal} {
			if e := shape.Fits(x.typ, v); e != x.e {
				t.Errorf("%s: Fits is %v, want %v", x.name, e, x.e)
			}
		}
	}
	if e := shape.Fits(container(container(container(container(container(boolean()))))), deepVal); e != api.ErrForm {
		t.Error(e)
	}
	if e := shape.Fits(container(list(1, list(1, list(1, list(1, uintOf(1)))))), rowsOf(5, num(1))); e != api.OK {
		t.Error(e)
	}
	held := api.Val{Items: make([]api.Val, 1)}
	held.Items[0] = held
	if e := shape.Fits(list(1, list(1, list(1, list(1, list(1, uintOf(32)))))), held); e != api.ErrForm {
		t.Error(e)
	}
	for _, v := range []api.Val{deepVal, many(1<<20, num(1)), ones(1 << 20)} {
		for _, typ := range []api.Type{list(512, boolean()), bitlist(512)} {
			if e := shape.Fits(typ, v); e != fitsOf(typ, v) {
				t.Errorf("Fits is %v", e)
			}
		}
		if !shape.Same(v, copyOfVal(v)) || shape.Same(v, num(1)) {
			t.Error("Same tells otherwise")
		}
	}
	if shape.Same(deepVal, rowsOf(levels, num(2))) || shape.Same(deepVal, rowsOf(levels-1, num(1))) {
		t.Error("deep ones that differ are the same")
	}
}

// Of the widest types each part is gone through once, so a call ends soon.
func TestWideTypesEnd(t *testing.T) {
	wide := uintOf(32)
	for range 4 {
		wide = container(times(16, wide)...)
	}
	if shape.Check(wide) != api.OK || !shape.Fixed(wide) || shape.Size(wide) != 32*65536 {
		t.Error(shape.Check(wide), shape.Fixed(wide), shape.Size(wide))
	}
	v := num(7)
	for range 4 {
		v = many(16, v)
	}
	if e := shape.Fits(wide, v); e != api.OK {
		t.Error(e)
	}
	if !shape.Same(v, copyOfVal(v)) {
		t.Error("not the same")
	}
}
