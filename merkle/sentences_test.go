package merkle_test

import (
	"encoding/binary"

	"rescript/api"
	"rescript/keccak"
	"rescript/shape"
)

// The chapter's sentences, a second time.

// summed is what was summed up: the same texts come again and again, those of zeros above all.
var summed = map[string]string{}

func sum(s string) string {
	if _, ok := summed[s]; !ok {
		summed[s] = keccak.Sum(s)
	}
	return summed[s]
}

func treeOf(l []string, most int) (string, api.Errno) {
	if most < 1 || most > 512 || len(l) > most {
		return "", api.ErrArg
	}
	for _, chunk := range l {
		if len(chunk) != 32 {
			return "", api.ErrArg
		}
	}
	width := 1
	for width < most {
		width *= 2
	}
	all := append([]string{}, l...)
	for len(all) < width {
		all = append(all, zeros(32))
	}
	for len(all) >= 2 {
		var next []string
		for i := 0; i < len(all); i += 2 {
			next = append(next, sum(all[i]+all[i+1]))
		}
		all = next
	}
	return all[0], api.OK
}

func mixOf(root string, n uint64) (string, api.Errno) {
	if len(root) != 32 {
		return "", api.ErrArg
	}
	return sum(root + string(binary.LittleEndian.AppendUint64(nil, n)) + zeros(24)), api.OK
}

func rootOf(t api.Type, v api.Val) (string, api.Errno) {
	if e := shape.Fits(t, v); e != api.OK {
		return "", e
	}
	return rootIn(t, v), api.OK
}

// rootIn is the root of a value that fits.
func rootIn(t api.Type, v api.Val) string {
	switch t.Kind {
	case 1, 2:
		return treeIn(chunksOf(plainOf(t, v)), 1)
	case 3:
		return itemsOf(t, v)
	case 4:
		return mixIn(itemsOf(t, v), len(v.Items))
	case 5:
		return treeIn(chunksOf(bytesOf(v.Bits)), need(t.N, 256))
	case 6:
		return mixIn(treeIn(chunksOf(bytesOf(v.Bits)), need(t.N, 256)), len(v.Bits))
	case 7:
		var l []string
		for i := range t.In {
			l = append(l, rootIn(t.In[i], v.Items[i]))
		}
		return treeIn(l, len(t.In))
	}
	return mixIn(rootIn(t.In[v.Pick], v.Items[0]), v.Pick)
}

// itemsOf is what comes of a vector's or a list's items.
func itemsOf(t api.Type, v api.Val) string {
	in := t.In[0]
	var l []string
	if in.Kind != 1 && in.Kind != 2 {
		for _, item := range v.Items {
			l = append(l, rootIn(in, item))
		}
		return treeIn(l, t.N)
	}
	all := ""
	for _, item := range v.Items {
		all += plainOf(in, item)
	}
	width := in.N
	if in.Kind == 2 {
		width = 1
	}
	return treeIn(chunksOf(all), need(t.N, 32/width))
}

// need is how many chunks so many things need, of which so many stand in one.
func need(n, one int) int {
	chunks := 0
	for n > 0 {
		chunks++
		n -= one
	}
	return chunks
}

func treeIn(l []string, most int) string {
	root, e := treeOf(l, most)
	if e != api.OK {
		panic(e)
	}
	return root
}

func mixIn(root string, n int) string {
	mixed, e := mixOf(root, uint64(n))
	if e != api.OK {
		panic(e)
	}
	return mixed
}

// plainOf are the bytes of a number, or of true or false.
func plainOf(t api.Type, v api.Val) string {
	var all []byte
	for _, part := range v.Num {
		all = binary.LittleEndian.AppendUint64(all, part)
	}
	if t.Kind == 2 {
		return string(all[:1])
	}
	return string(all[:t.N])
}

// bytesOf are bits as bytes.
func bytesOf(bits []bool) string {
	all := make([]byte, need(len(bits), 8))
	for i, bit := range bits {
		if bit {
			all[i/8] += 1 << (i % 8)
		}
	}
	return string(all)
}

// chunksOf are the chunks of bytes, and of zeros behind them.
func chunksOf(s string) []string {
	var l []string
	for len(s) > 0 {
		for len(s) < 32 {
			s += "\x00"
		}
		l = append(l, s[:32])
		s = s[32:]
	}
	return l
}
