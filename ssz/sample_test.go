package ssz_test

import (
	"math/rand"
	"slices"

	"rescript/api"
	"rescript/word"
)

// Types, short.

func uintOf(n int) api.Type { return api.Type{Kind: api.TypeUint, N: n} }

func boolean() api.Type { return api.Type{Kind: api.TypeBool} }

func vector(n int, in ...api.Type) api.Type { return api.Type{Kind: api.TypeVector, N: n, In: in} }

func list(n int, in ...api.Type) api.Type { return api.Type{Kind: api.TypeList, N: n, In: in} }

func bits(n int) api.Type { return api.Type{Kind: api.TypeBits, N: n} }

func bitlist(n int) api.Type { return api.Type{Kind: api.TypeBitlist, N: n} }

func container(in ...api.Type) api.Type { return api.Type{Kind: api.TypeContainer, In: in} }

func union(in ...api.Type) api.Type { return api.Type{Kind: api.TypeUnion, In: in} }

// Values, short.

func num(n uint64) api.Val { return api.Val{Num: word.Of(n)} }

func wide(w ...uint64) api.Val {
	v := api.Val{}
	copy(v.Num[:], w)
	return v
}

// marks are bits, told by zeros and ones.
func marks(s string) api.Val {
	v := api.Val{}
	for _, mark := range s {
		v.Bits = append(v.Bits, mark == '1')
	}
	return v
}

func ones(n int) api.Val { return api.Val{Bits: slices.Repeat([]bool{true}, n)} }

func row(items ...api.Val) api.Val { return api.Val{Items: items} }

func pick(n int, items ...api.Val) api.Val { return api.Val{Pick: n, Items: items} }

// many is a row of a value so many times.
func many(n int, v api.Val) api.Val { return row(slices.Repeat([]api.Val{v}, n)...) }

// times is a type so many times.
func times(n int, t api.Type) []api.Type { return slices.Repeat([]api.Type{t}, n) }

// within is a type that stands in so many, each in the one ahead.
func within(types int, t api.Type) api.Type {
	for i := range types {
		switch i % 4 {
		case 0:
			t = container(t)
		case 1:
			t = vector(1, t)
		case 2:
			t = list(2, t)
		case 3:
			t = union(t)
		}
	}
	return t
}

// copyOfType and copyOfVal are in memory of their own.
func copyOfType(t api.Type) api.Type {
	own := api.Type{Kind: t.Kind, N: t.N}
	for _, in := range t.In {
		own.In = append(own.In, copyOfType(in))
	}
	return own
}

func copyOfVal(v api.Val) api.Val {
	own := api.Val{Num: v.Num, Bits: slices.Clone(v.Bits), Pick: v.Pick}
	for _, in := range v.Items {
		own.Items = append(own.Items, copyOfVal(in))
	}
	return own
}

func sameType(a, b api.Type) bool {
	return a.Kind == b.Kind && a.N == b.N && slices.EqualFunc(a.In, b.In, sameType)
}

// same tells whether values are alike, nil and empty lists too.
func same(a, b api.Val) bool {
	return a.Num == b.Num && a.Pick == b.Pick && slices.Equal(a.Bits, b.Bits) && slices.EqualFunc(a.Items, b.Items, same)
}

// brief keeps what a failed test tells short.
func brief(v api.Val) api.Val {
	v.Bits, v.Items = v.Bits[:min(len(v.Bits), 4)], v.Items[:min(len(v.Items), 4)]
	return v
}

// sampleType is a type that stands in so many others at most; of a spoiled one something may be wrong.
func sampleType(r *rand.Rand, deep int, spoiled bool) api.Type {
	if spoiled && r.Intn(40) == 0 {
		return []api.Type{
			{}, {Kind: 9}, {Kind: -1}, uintOf(3), {Kind: api.TypeBool, N: 1}, vector(0, boolean()), vector(513, boolean()),
			list(2), bits(0), bitlist(513), container(), union(times(9, boolean())...), vector(1, boolean(), boolean()),
		}[r.Intn(13)]
	}
	count := []int{1, 2, 3, 7, 8, 9, 17}[r.Intn(7)]
	if deep == 0 || r.Intn(4) == 0 {
		return []api.Type{uintOf([]int{1, 2, 4, 8, 32}[r.Intn(5)]), boolean(), bits(count), bitlist(count)}[r.Intn(4)]
	}
	in := []api.Type{sampleType(r, deep-1, spoiled)}
	switch r.Intn(4) {
	case 0:
		return vector(1+r.Intn(3), in...)
	case 1:
		return list(1+r.Intn(3), in...)
	}
	for range r.Intn(3) {
		in = append(in, sampleType(r, deep-1, spoiled))
	}
	if r.Intn(2) == 0 {
		return union(in...)
	}
	return container(in...)
}

// sampleVal is a value of a type that Check takes.
func sampleVal(r *rand.Rand, t api.Type) api.Val {
	v := api.Val{}
	items := 0
	switch t.Kind {
	case api.TypeUint:
		for i := range t.N {
			v.Num[i/8] |= uint64([]int{0, 1, 128, 255, r.Intn(256)}[r.Intn(5)]) << (i % 8 * 8)
		}
	case api.TypeBool:
		v.Num[0] = uint64(r.Intn(2))
	case api.TypeVector:
		items = t.N
	case api.TypeList:
		items = r.Intn(t.N + 1)
	case api.TypeBits:
		v.Bits = sampleBits(r, t.N)
	case api.TypeBitlist:
		v.Bits = sampleBits(r, r.Intn(t.N+1))
	case api.TypeContainer:
		items = len(t.In)
	case api.TypeUnion:
		v.Pick, items = r.Intn(len(t.In)), 1
	}
	for i := range items {
		v.Items = append(v.Items, sampleVal(r, typeOf(t, v, i)))
	}
	return v
}

func sampleBits(r *rand.Rand, n int) []bool {
	l := make([]bool, n)
	for i := range l {
		l[i] = r.Intn(2) == 1
	}
	return l
}

// spoil changes one part of a value, or of one in it, so that it is another value.
func spoil(r *rand.Rand, v *api.Val) {
	if len(v.Items) > 0 && r.Intn(3) > 0 {
		spoil(r, &v.Items[r.Intn(len(v.Items))])
		return
	}
	switch r.Intn(7) {
	case 0:
		v.Num[r.Intn(4)] ^= 1 << r.Intn(64)
	case 1:
		v.Pick += 1 - 2*r.Intn(2)
	case 2:
		v.Bits = append(v.Bits, r.Intn(2) == 1)
	case 3:
		v.Items = append(v.Items, num(uint64(r.Intn(3))))
	case 4:
		if len(v.Bits) == 0 {
			v.Num[0] ^= 1
			return
		}
		v.Bits[r.Intn(len(v.Bits))] = !v.Bits[0]
	case 5:
		v.Bits = v.Bits[:max(len(v.Bits), 1)-1]
	case 6:
		v.Items = v.Items[:max(len(v.Items), 1)-1]
	}
}

// spoilText changes a text a little.
func spoilText(r *rand.Rand, s string) string {
	if s == "" || r.Intn(8) == 0 {
		at := r.Intn(len(s) + 1)
		return s[:at] + string([]byte{byte(r.Intn(4))}) + s[at:]
	}
	at := r.Intn(len(s))
	out := []byte(s)
	switch r.Intn(6) {
	case 0:
		return s[:at] + s[at+1:]
	case 1:
		return s[:at]
	case 2:
		out[at] ^= 1 << r.Intn(8)
	case 3:
		out[at] = byte(r.Intn(256))
	case 4:
		out[at] += byte(4 - 8*r.Intn(2))
	case 5:
		out[at] += byte(1 - 2*r.Intn(2))
	}
	return string(out)
}

// typesAndVals hands each of many types, with a value that is of it, or is not.
func typesAndVals(seed int64, each func(r *rand.Rand, typ api.Type, v api.Val)) {
	r := rand.New(rand.NewSource(seed))
	for i := range 20000 {
		typ := sampleType(r, i%6, i%4 == 0)
		v := num(uint64(i % 300))
		if checkOf(typ, 0) == api.OK {
			v = sampleVal(r, typ)
		}
		for range max(i%5-2, 0) {
			spoil(r, &v)
		}
		each(r, typ, v)
	}
}
