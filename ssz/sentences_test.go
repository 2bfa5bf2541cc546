package ssz_test

import (
	"math/big"
	"strings"

	"rescript/api"
)

// The chapters' sentences, a second time. First those of chapter 7.

// mayBe tells whether a type is as the table of chapter 7 says, those in it aside.
func mayBe(t api.Type) bool {
	switch t.Kind {
	case 1:
		return (t.N == 1 || t.N == 2 || t.N == 4 || t.N == 8 || t.N == 32) && len(t.In) == 0
	case 2:
		return t.N == 0 && len(t.In) == 0
	case 3, 4:
		return t.N >= 1 && t.N <= 512 && len(t.In) == 1
	case 5, 6:
		return t.N >= 1 && t.N <= 512 && len(t.In) == 0
	case 7:
		return t.N == 0 && len(t.In) >= 1 && len(t.In) <= 16
	}
	return t.N == 0 && len(t.In) >= 1 && len(t.In) <= 8
}

// checkOf is what Check tells of a type that stands in so many others.
func checkOf(t api.Type, ahead int) api.Errno {
	if t.Kind < 1 || t.Kind > 8 {
		return api.ErrKind
	}
	if !mayBe(t) {
		return api.ErrForm
	}
	if ahead >= 6 {
		return api.ErrDeep
	}
	for _, in := range t.In {
		if e := checkOf(in, ahead+1); e != api.OK {
			return e
		}
	}
	return api.OK
}

// sizeOf tells whether a type that Check takes is fixed, and its size.
func sizeOf(t api.Type) (bool, int) {
	switch t.Kind {
	case 1:
		return true, t.N
	case 2:
		return true, 1
	case 5:
		whole, over := t.N/8, t.N%8
		if over > 0 {
			whole++
		}
		return true, whole
	case 3:
		fixed, size := sizeOf(t.In[0])
		return fixed, t.N * size
	case 7:
		all := 0
		for _, in := range t.In {
			fixed, size := sizeOf(in)
			if !fixed {
				return false, 0
			}
			all += size
		}
		return true, all
	}
	return false, 0
}

// bigOf is a word's number.
func bigOf(w api.Word) *big.Int {
	all := new(big.Int)
	for i := range w {
		all.Add(all.Lsh(all, 64), new(big.Int).SetUint64(w[3-i]))
	}
	return all
}

// ownOf is what is wrong with a value itself.
func ownOf(t api.Type, v api.Val) api.Errno {
	if t.Kind == 4 && len(v.Items) > t.N || t.Kind == 6 && len(v.Bits) > t.N {
		return api.ErrLong
	}
	hasNum, hasBits, hasItems, hasPick := v.Num != api.Word{}, len(v.Bits) != 0, len(v.Items) != 0, v.Pick != 0
	ok := false
	switch t.Kind {
	case 1:
		ok = bigOf(v.Num).BitLen() <= 8*t.N && !hasBits && !hasItems && !hasPick
	case 2:
		ok = bigOf(v.Num).BitLen() <= 1 && !hasBits && !hasItems && !hasPick
	case 3:
		ok = !hasNum && !hasBits && len(v.Items) == t.N && !hasPick
	case 4:
		ok = !hasNum && !hasBits && !hasPick
	case 5:
		ok = !hasNum && len(v.Bits) == t.N && !hasItems && !hasPick
	case 6:
		ok = !hasNum && !hasItems && !hasPick
	case 7:
		ok = !hasNum && !hasBits && len(v.Items) == len(t.In) && !hasPick
	case 8:
		ok = !hasNum && !hasBits && len(v.Items) == 1 && v.Pick >= 0 && v.Pick < len(t.In)
	}
	if !ok {
		return api.ErrForm
	}
	return api.OK
}

// typeOf is the type of an item of a value that is itself as it must be.
func typeOf(t api.Type, v api.Val, place int) api.Type {
	switch t.Kind {
	case 7:
		return t.In[place]
	case 8:
		return t.In[v.Pick]
	}
	return t.In[0]
}

// holdOf is what is wrong with a value of a type that Check takes.
func holdOf(t api.Type, v api.Val) api.Errno {
	if e := ownOf(t, v); e != api.OK {
		return e
	}
	for i, in := range v.Items {
		if e := holdOf(typeOf(t, v, i), in); e != api.OK {
			return e
		}
	}
	return api.OK
}

// Then those of chapter 8.

func putOf(t api.Type, v api.Val) (string, api.Errno) {
	if e := checkOf(t, 0); e != api.OK {
		return "", e
	}
	if e := holdOf(t, v); e != api.OK {
		return "", e
	}
	s := bytesOf(t, v)
	if len(s) > 65536 {
		return "", api.ErrLong
	}
	return s, api.OK
}

// bytesOf are the bytes of a value.
func bytesOf(t api.Type, v api.Val) string {
	switch t.Kind {
	case 1:
		return turned(bigOf(v.Num), t.N)
	case 2:
		return turned(bigOf(v.Num), 1)
	case 5:
		return turned(bigOfBits(v.Bits), (len(v.Bits)+7)/8)
	case 6:
		return turned(bigOfBits(append(append([]bool{}, v.Bits...), true)), (len(v.Bits)+8)/8)
	case 8:
		return turned(big.NewInt(int64(v.Pick)), 1) + bytesOf(t.In[v.Pick], v.Items[0])
	}
	var own []string
	var fixed []bool
	begin := 0
	for i, in := range v.Items {
		f, size := sizeOf(typeOf(t, v, i))
		if !f {
			size = 4
		}
		begin += size
		own = append(own, bytesOf(typeOf(t, v, i), in))
		fixed = append(fixed, f)
	}
	var ahead, behind strings.Builder
	for i := range own {
		if fixed[i] {
			ahead.WriteString(own[i])
			continue
		}
		ahead.WriteString(turned(big.NewInt(int64(begin+behind.Len())), 4))
		behind.WriteString(own[i])
	}
	return ahead.String() + behind.String()
}

// turned are so many bytes of a number, the lowest ones first.
func turned(n *big.Int, bytes int) string {
	top := n.FillBytes(make([]byte, bytes))
	var s []byte
	for i := range top {
		s = append(s, top[len(top)-1-i])
	}
	return string(s)
}

// bigOfBits is a number of bits, the lowest one first.
func bigOfBits(bits []bool) *big.Int {
	n := new(big.Int)
	for i, bit := range bits {
		if bit {
			n.SetBit(n, i, 1)
		}
	}
	return n
}

// unturned is the number of bytes, the lowest ones first.
func unturned(s string) *big.Int {
	top := make([]byte, len(s))
	for i := range top {
		top[i] = s[len(s)-1-i]
	}
	return new(big.Int).SetBytes(top)
}

func getOf(t api.Type, s string) (api.Val, api.Errno) {
	if e := checkOf(t, 0); e != api.OK {
		return api.Val{}, e
	}
	if len(s) > 65536 {
		return api.Val{}, api.ErrLong
	}
	v, e := valueOf(t, s)
	if e != api.OK {
		return api.Val{}, e
	}
	return v, api.OK
}

// valueOf is the value whose bytes s are, whatever it is beside an error.
func valueOf(t api.Type, s string) (v api.Val, e api.Errno) {
	if fixed, size := sizeOf(t); fixed && len(s) != size {
		return v, api.ErrForm
	}
	switch t.Kind {
	case 1, 2:
		n := unturned(s)
		if t.Kind == 2 && n.Int64() != 0 && n.Int64() != 1 {
			return v, api.ErrForm
		}
		for i := range v.Num {
			v.Num[i] = new(big.Int).And(new(big.Int).Rsh(n, uint(64*i)), new(big.Int).SetUint64(1<<64-1)).Uint64()
		}
		return v, api.OK
	case 3:
		return rowOf(t, s, t.N)
	case 4:
		return listOf(t, s)
	case 5:
		n := unturned(s)
		for i := range t.N {
			v.Bits = append(v.Bits, n.Bit(i) == 1)
		}
		if n.BitLen() > t.N {
			return v, api.ErrSpare
		}
		return v, api.OK
	case 6:
		n := unturned(s)
		if s == "" || s[len(s)-1] == 0 {
			return v, api.ErrForm
		}
		if n.BitLen()-1 > t.N {
			return v, api.ErrLong
		}
		for i := range n.BitLen() - 1 {
			v.Bits = append(v.Bits, n.Bit(i) == 1)
		}
		return v, api.OK
	case 8:
		if s == "" {
			return v, api.ErrForm
		}
		if int(s[0]) >= len(t.In) {
			return v, api.ErrKind
		}
		in, e := valueOf(t.In[s[0]], s[1:])
		return api.Val{Pick: int(s[0]), Items: []api.Val{in}}, e
	}
	return rowOf(t, s, len(t.In))
}

func listOf(t api.Type, s string) (api.Val, api.Errno) {
	if s == "" {
		return api.Val{}, api.OK
	}
	fixed, size := sizeOf(t.In[0])
	if fixed {
		if len(s)%size != 0 {
			return api.Val{}, api.ErrForm
		}
		if len(s)/size > t.N {
			return api.Val{}, api.ErrLong
		}
		return rowOf(t, s, len(s)/size)
	}
	if len(s) < 4 {
		return api.Val{}, api.ErrForm
	}
	first := unturned(s[:4]).Int64()
	if first%4 != 0 || first == 0 {
		return api.Val{}, api.ErrForm
	}
	if first/4 > int64(t.N) {
		return api.Val{}, api.ErrLong
	}
	return rowOf(t, s, int(first/4))
}

// rowOf is the value of a row of so many items.
func rowOf(t api.Type, s string, items int) (v api.Val, e api.Errno) {
	begin := 0
	var places, offsets []int
	for i := range items {
		fixed, size := sizeOf(typeOf(t, v, i))
		if !fixed {
			size = 4
		}
		if begin+size > len(s) {
			return v, api.ErrForm
		}
		places = append(places, begin)
		if !fixed {
			offsets = append(offsets, int(unturned(s[begin:begin+4]).Int64()))
		}
		begin += size
	}
	for i, at := range offsets {
		if i == 0 && at != begin || i > 0 && at < offsets[i-1] || i == len(offsets)-1 && at > len(s) {
			return v, api.ErrForm
		}
	}
	for i := range items {
		in := typeOf(t, v, i)
		fixed, size := sizeOf(in)
		from, to := places[i], places[i]+size
		if !fixed {
			from, to = offsets[0], len(s)
			if len(offsets) > 1 {
				to = offsets[1]
			}
			offsets = offsets[1:]
		}
		one, e := valueOf(in, s[from:to])
		if e != api.OK {
			return v, e
		}
		v.Items = append(v.Items, one)
	}
	return v, api.OK
}
