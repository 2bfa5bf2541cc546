package merkle_test

import (
	"math/rand"
	"slices"
	"strings"

	"rescript/api"
	"rescript/shape"
	"rescript/word"
)

// zeros are so many bytes.
func zeros(n int) string { return strings.Repeat("\x00", n) }

// chunk is bytes, and zeros behind.
func chunk(s string) string { return s + zeros(32-len(s)) }

// chunkAt is a chunk that is no other one's, and none of zeros.
func chunkAt(i int) string { return chunk(string([]byte{7, byte(i), byte(i >> 8)})) }

// chunks are so many, each of its own.
func chunks(n int) []string {
	var l []string
	for i := range n {
		l = append(l, chunkAt(i))
	}
	return l
}

// Types, short.

func uintOf(n int) api.Type { return api.Type{Kind: api.TypeUint, N: n} }

func boolean() api.Type { return api.Type{Kind: api.TypeBool} }

func vector(n int, in ...api.Type) api.Type { return api.Type{Kind: api.TypeVector, N: n, In: in} }

func list(n int, in ...api.Type) api.Type { return api.Type{Kind: api.TypeList, N: n, In: in} }

func bits(n int) api.Type { return api.Type{Kind: api.TypeBits, N: n} }

func bitlist(n int) api.Type { return api.Type{Kind: api.TypeBitlist, N: n} }

func container(in ...api.Type) api.Type { return api.Type{Kind: api.TypeContainer, In: in} }

func union(in ...api.Type) api.Type { return api.Type{Kind: api.TypeUnion, In: in} }

// times is a type so many times.
func times(n int, t api.Type) []api.Type { return slices.Repeat([]api.Type{t}, n) }

// Values, short.

func num(n uint64) api.Val { return api.Val{Num: word.Of(n)} }

// marks are bits, told by zeros and ones.
func marks(s string) api.Val {
	v := api.Val{}
	for _, mark := range s {
		v.Bits = append(v.Bits, mark == '1')
	}
	return v
}

func ones(n int) api.Val { return api.Val{Bits: slices.Repeat([]bool{true}, n)} }

func row(items ...api.Val) api.Val { return api.Val{Items: items} }

// nums are the numbers from 1 on, so many.
func nums(n int) api.Val {
	v := row()
	for i := range n {
		v.Items = append(v.Items, num(uint64(i+1)))
	}
	return v
}

// many is a row of a value so many times.
func many(n int, v api.Val) api.Val { return row(slices.Repeat([]api.Val{v}, n)...) }

func pick(n int, item api.Val) api.Val { return api.Val{Pick: n, Items: []api.Val{item}} }

// copyOfType and copyOfVal are in memory of their own.
func copyOfType(t api.Type) api.Type {
	own := api.Type{Kind: t.Kind, N: t.N}
	for _, in := range t.In {
		own.In = append(own.In, copyOfType(in))
	}
	return own
}

func copyOfVal(v api.Val) api.Val {
	own := api.Val{Num: v.Num, Bits: slices.Clone(v.Bits), Pick: v.Pick}
	for _, in := range v.Items {
		own.Items = append(own.Items, copyOfVal(in))
	}
	return own
}

// otherwise is the same value, written otherwise: lists without things are made empty, not nil,
// and behind all lists' ends stands something.
func otherwise(v api.Val) api.Val {
	own := api.Val{Num: v.Num, Pick: v.Pick}
	own.Bits = append(append([]bool{}, v.Bits...), true, true)[:len(v.Bits)]
	for _, in := range v.Items {
		own.Items = append(own.Items, otherwise(in))
	}
	own.Items = append(append([]api.Val{}, own.Items...), num(9), ones(3))[:len(v.Items)]
	return own
}

func sameType(a, b api.Type) bool {
	return a.Kind == b.Kind && a.N == b.N && slices.EqualFunc(a.In, b.In, sameType)
}

// brief keeps what a failed test tells short.
func brief(v api.Val) api.Val {
	v.Bits, v.Items = v.Bits[:min(len(v.Bits), 4)], v.Items[:min(len(v.Items), 4)]
	return v
}

// wrongTypes are what no types are, and what stands in types.
func wrongTypes() []api.Type {
	return []api.Type{
		{}, {Kind: 9}, {Kind: -1}, uintOf(3), {Kind: api.TypeBool, N: 1}, vector(0, boolean()), vector(513, boolean()),
		list(2), bits(0), bitlist(513), container(), union(times(9, boolean())...), list(1, boolean(), boolean()),
	}
}

// sampleType is a type that stands in so many others at most; of a spoiled one something may be wrong.
func sampleType(r *rand.Rand, deep int, spoiled bool) api.Type {
	if spoiled && r.Intn(30) == 0 {
		wrong := wrongTypes()
		return wrong[r.Intn(len(wrong))]
	}
	plain := []api.Type{uintOf(1), uintOf(2), uintOf(4), uintOf(8), uintOf(32), boolean()}[r.Intn(6)]
	count := []int{1, 2, 8, 9, 255, 256, 257, 512}[r.Intn(8)]
	if deep == 0 || r.Intn(8) == 0 {
		return []api.Type{plain, bits(count), bitlist(count)}[r.Intn(3)]
	}
	few := []int{1, 2, 3, 4, 5, 9}[r.Intn(6)]
	switch r.Intn(6) {
	case 0:
		return vector([]int{few, 16, 17, 32, 33, 65}[r.Intn(6)], plain)
	case 1:
		return list([]int{few, 16, 17, 32, 33, 512}[r.Intn(6)], plain)
	case 2:
		return vector(1+few%3, sampleType(r, deep-1, spoiled))
	case 3:
		return list(few, sampleType(r, deep-1, spoiled))
	}
	var in []api.Type
	for range few {
		in = append(in, sampleType(r, deep-1, spoiled))
	}
	if r.Intn(2) == 0 {
		return union(in[:min(few, 8)]...)
	}
	return container(in...)
}

// sampleVal is a value of a type that Check takes.
func sampleVal(r *rand.Rand, t api.Type) api.Val {
	v := api.Val{}
	switch t.Kind {
	case api.TypeUint:
		for i := range t.N {
			v.Num[i/8] |= uint64([]int{0, 1, 128, 255, r.Intn(256)}[r.Intn(5)]) << (i % 8 * 8)
		}
	case api.TypeBool:
		v.Num[0] = uint64(r.Intn(2))
	case api.TypeBits:
		v.Bits = sampleBits(r, t.N)
	case api.TypeBitlist:
		v.Bits = sampleBits(r, sampleLength(r, t.N))
	case api.TypeVector:
		v.Items = sampleItems(r, times(t.N, t.In[0]))
	case api.TypeList:
		v.Items = sampleItems(r, times(sampleLength(r, t.N), t.In[0]))
	case api.TypeContainer:
		v.Items = sampleItems(r, t.In)
	case api.TypeUnion:
		v.Pick = r.Intn(len(t.In))
		v.Items = sampleItems(r, t.In[v.Pick:v.Pick+1])
	}
	return v
}

// sampleLength is a length of no more than so many: none and all often, and else few.
func sampleLength(r *rand.Rand, most int) int {
	return []int{0, most, r.Intn(most + 1), min(r.Intn(20), most)}[r.Intn(4)]
}

func sampleItems(r *rand.Rand, in []api.Type) []api.Val {
	var l []api.Val
	for _, t := range in {
		l = append(l, sampleVal(r, t))
	}
	return l
}

func sampleBits(r *rand.Rand, n int) []bool {
	l := make([]bool, n)
	for i := range l {
		l[i] = r.Intn(2) == 1
	}
	return l
}

// spoil changes one part of a value, or of one in it.
func spoil(r *rand.Rand, v *api.Val) {
	if len(v.Items) > 0 && r.Intn(3) > 0 {
		spoil(r, &v.Items[r.Intn(len(v.Items))])
		return
	}
	switch r.Intn(6) {
	case 0:
		v.Num[r.Intn(4)] ^= 1 << r.Intn(64)
	case 1:
		v.Pick += 1 - 2*r.Intn(2)
	case 2:
		v.Bits = append(v.Bits, r.Intn(2) == 1)
	case 3:
		v.Items = append(v.Items, num(uint64(r.Intn(3))))
	case 4:
		v.Bits = v.Bits[:max(len(v.Bits), 1)-1]
	case 5:
		v.Items = v.Items[:max(len(v.Items), 1)-1]
	}
}

// typesAndVals hands each of many types, with a value that is of it, or is not.
func typesAndVals(seed int64, times int, each func(typ api.Type, v api.Val)) {
	r := rand.New(rand.NewSource(seed))
	for i := range times {
		typ := sampleType(r, i%6, i%4 == 0)
		v := num(uint64(i % 300))
		if shape.Check(typ) == api.OK {
			v = sampleVal(r, typ)
		}
		if i%3 == 0 {
			spoil(r, &v)
		}
		each(typ, v)
	}
}
