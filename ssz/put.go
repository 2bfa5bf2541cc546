package ssz

import (
	"slices"

	"rescript/api"
	"rescript/num"
	"rescript/word"
)

// put is the bytes of a value that fits, and gives up where they are too many.
func put(t api.Type, v api.Val) []byte {
	out := bytesOf(t, v)
	need(len(out) <= api.MaxBytes, api.ErrLong)
	return out
}

func bytesOf(t api.Type, v api.Val) []byte {
	switch t.Kind {
	case api.TypeUint:
		return lowest(t.N, v.Num)
	case api.TypeBool:
		return lowest(1, v.Num)
	case api.TypeBits:
		return putBits(v.Bits)
	case api.TypeBitlist:
		return putBits(v.Bits, endBit)
	case api.TypeUnion:
		return append([]byte{byte(v.Pick)}, put(t.In[v.Pick], v.Items[0])...)
	}
	return putRow(t, v.Items)
}

// lowest are so many of a number's bytes, the lowest ones first.
func lowest(n int, w api.Word) []byte {
	out := []byte(word.Fixed(w))
	slices.Reverse(out)
	return out[:n]
}

func putBits(bits []bool, behind ...bool) []byte {
	var out []byte
	count := 0
	putBit := func(bit bool) {
		if count%byteBits == 0 {
			out = append(out, 0)
		}
		if bit {
			out[count/byteBits] |= 1 << (count % byteBits)
		}
		count++
	}
	for _, bit := range bits {
		putBit(bit)
	}
	for _, bit := range behind {
		putBit(bit)
	}
	return out
}

func putRow(t api.Type, items []api.Val) []byte {
	next := 0
	for _, p := range parts(t, len(items)) {
		next += p.width
	}
	var begin, behind []byte
	for i, p := range parts(t, len(items)) {
		// Ahead of what is put: the rest may be many times as long, and an offset tells no more.
		need(next <= api.MaxBytes, api.ErrLong)
		own := put(p.Type, items[i])
		if p.fixed {
			begin = append(begin, own...)
			continue
		}
		begin = append(begin, offset(next)...)
		behind = append(behind, own...)
		next += len(own)
	}
	return append(begin, behind...)
}

func offset(n int) []byte {
	// So few bytes are told by an offset always: there is no error.
	out, _ := num.Le(uint64(n), offsetBytes)
	return []byte(out)
}
