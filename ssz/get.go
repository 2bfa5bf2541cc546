package ssz

import (
	"math/bits"
	"slices"

	"rescript/api"
	"rescript/num"
	"rescript/word"
)

// get is the value whose bytes s are; it gives up where they are those of none.
func get(p part, s string) api.Val {
	need(!p.fixed || len(s) == p.width, api.ErrForm)
	switch p.Kind {
	case api.TypeUint:
		return api.Val{Num: number(s)}
	case api.TypeBool:
		return api.Val{Num: yesOrNo(s)}
	case api.TypeBits:
		return api.Val{Bits: bitsAlone(s, p.N)}
	case api.TypeBitlist:
		return api.Val{Bits: bitsToEnd(s, p.N)}
	case api.TypeUnion:
		return oneOf(p.Type, s)
	case api.TypeVector:
		return getRow(p.Type, s, p.N)
	case api.TypeList:
		return getRow(p.Type, s, itemsOf(p.Type, s))
	}
	return getRow(p.Type, s, len(p.In))
}

// number is that of bytes, a word's at most, the lowest ones first.
func number(s string) api.Word {
	all := make([]byte, wordBytes)
	copy(all, s)
	slices.Reverse(all)
	// So many bytes are a word always: there is no error.
	w, _ := word.Unfixed(string(all))
	return w
}

func yesOrNo(s string) api.Word {
	n := number(s)
	need(word.Less(n, word.Of(2)), api.ErrForm)
	return n
}

// bitsAlone are n bits that have nothing behind them but zeros.
func bitsAlone(s string, n int) []bool {
	all := bitsOf(s)
	need(!slices.Contains(all[n:], true), api.ErrSpare)
	return all[:n]
}

// bitsToEnd are the bits, n at most, ahead of the one that tells where they end.
func bitsToEnd(s string, n int) []bool {
	need(s != "" && s[len(s)-1] != 0, api.ErrForm)
	last := len(s) - 1
	end := byteBits*last + bits.Len8(s[last]) - 1
	need(end <= n, api.ErrLong)
	return bitsOf(s)[:end]
}

// bitsOf are all bits of bytes, the lowest one of each first.
func bitsOf(s string) []bool {
	all := make([]bool, byteBits*len(s))
	for i := range all {
		all[i] = s[i/byteBits]>>(i%byteBits)&1 == 1
	}
	return all
}

func oneOf(t api.Type, s string) api.Val {
	need(s != "", api.ErrForm)
	pick := int(s[0])
	need(pick < len(t.In), api.ErrKind)
	return api.Val{Pick: pick, Items: []api.Val{get(partOf(t.In[pick]), s[1:])}}
}

// getRow is the value of a row of so many items.
func getRow(t api.Type, s string, items int) api.Val {
	own := cut(t, s, items)
	v := api.Val{Items: make([]api.Val, items)}
	for i, p := range parts(t, items) {
		v.Items[i] = get(p, own[i])
	}
	return v
}

// itemsOf is how many items a list's bytes are: as many as its beginning has room for.
func itemsOf(t api.Type, s string) int {
	if s == "" {
		return 0
	}
	p := partOf(t.In[0])
	begin := len(s)
	if !p.fixed {
		need(len(s) >= offsetBytes, api.ErrForm)
		begin = unoffset(s[:offsetBytes])
		need(begin > 0, api.ErrForm)
	}
	need(begin%p.width == 0, api.ErrForm)
	need(begin/p.width <= t.N, api.ErrLong)
	return begin / p.width
}

// cut is each item's own bytes.
func cut(t api.Type, s string, items int) []string {
	own := make([]string, items)
	at := 0
	var apart, ends []int
	for i, p := range parts(t, items) {
		need(p.width <= len(s)-at, api.ErrForm)
		own[i] = s[at : at+p.width]
		at += p.width
		if !p.fixed {
			apart = append(apart, i)
			ends = append(ends, unoffset(own[i]))
		}
	}
	// With the row's end behind the offsets each one is where the item ahead of it ends, and the
	// first one where the beginning does, which is all of the row if no item stands apart.
	ends = append(ends, len(s))
	need(ends[0] == at && slices.IsSorted(ends), api.ErrForm)
	for j, i := range apart {
		own[i] = s[ends[j]:ends[j+1]]
	}
	return own
}

func unoffset(s string) int {
	// So few bytes are a number always: there is no error.
	n, _ := num.Unle(s)
	return int(n)
}
