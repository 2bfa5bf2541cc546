package merkle

import (
	"rescript/api"
	"rescript/shape"
	"rescript/ssz"
)

// roots tell, by the kind of a type, the root of a value that fits it.
type roots map[int]func(t api.Type, v api.Val) string

func (k roots) of(t api.Type, v api.Val) string { return k[t.Kind](t, v) }

// ofEach are the roots of a row's items. Where there are more items than types, as in a vector,
// the last type is that of all others.
func (k roots) ofEach(t api.Type, items []api.Val) []string {
	var l []string
	for i, item := range items {
		l = append(l, k.of(t.In[min(i, len(t.In)-1)], item))
	}
	return l
}

func table() roots {
	var k roots
	whole := func(t api.Type, v api.Val) string { return packed(put(t, v), shape.Size(t)) }
	items := func(t api.Type, v api.Val) string {
		if in := t.In[0]; isPlain(in) {
			return packed(put(t, v), t.N*shape.Size(in))
		}
		return tree(k.ofEach(t, v.Items), t.N)
	}
	k = roots{
		api.TypeUint:   whole,
		api.TypeBool:   whole,
		api.TypeBits:   whole,
		api.TypeVector: items,
		api.TypeList: func(t api.Type, v api.Val) string {
			return mix(items(t, v), uint64(len(v.Items)))
		},
		api.TypeBitlist: func(t api.Type, v api.Val) string {
			return mix(packed(putBits(v.Bits), shape.Size(bitsOf(t.N))), uint64(len(v.Bits)))
		},
		api.TypeContainer: func(t api.Type, v api.Val) string {
			return tree(k.ofEach(t, v.Items), len(t.In))
		},
		api.TypeUnion: func(t api.Type, v api.Val) string {
			return mix(k.of(t.In[v.Pick], v.Items[0]), uint64(v.Pick))
		},
	}
	return k
}

func isPlain(t api.Type) bool { return t.Kind == api.TypeUint || t.Kind == api.TypeBool }

// packed is the root of bytes in as many chunks as so many bytes at most need.
func packed(s string, most int) string { return tree(cut(s), (most+chunkBytes-1)/chunkBytes) }

// put are the bytes of a plain value, of a row of them, or of bits.
func put(t api.Type, v api.Val) string {
	// It fits, and as many as there may be of these are never too long: there is no error.
	s, _ := ssz.Put(t, v)
	return s
}

// putBits are the bytes of a bit list's own bits, without the one that tells where they end.
func putBits(bits []bool) string {
	if len(bits) == 0 {
		return ""
	}
	return put(bitsOf(len(bits)), api.Val{Bits: bits})
}

func bitsOf(n int) api.Type { return api.Type{Kind: api.TypeBits, N: n} }
