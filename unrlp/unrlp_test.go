package unrlp_test

import (
	"math"
	"math/rand"
	"reflect"
	"slices"
	"strings"
	"testing"
	"unsafe"

	"rescript/api"
	"rescript/rlp"
	"rescript/unrlp"
)

func text(s string) api.Item { return api.Item{Bytes: s} }

func list(l ...api.Item) api.Item { return api.Item{List: true, Items: l} }

// ab are bytes of so many, none of which could be one alone.
func ab(n int) string { return strings.Repeat("\xab", n) }

// five are so many items of one byte.
func five(n int) string { return strings.Repeat("\x05", n) }

// many is a list of an item so many times.
func many(n int, it api.Item) api.Item { return list(slices.Repeat([]api.Item{it}, n)...) }

// within is an item that stands in so many lists.
func within(lists int, it api.Item) api.Item {
	for range lists {
		it = list(it)
	}
	return it
}

// listOf are the bytes of a list whose own they are, whatever they are.
func listOf(own ...string) string {
	all := strings.Join(own, "")
	n := len(all)
	switch {
	case n < 56:
		return string([]byte{byte(192 + n)}) + all
	case n < 1<<8:
		return string([]byte{248, byte(n)}) + all
	case n < 1<<16:
		return string([]byte{249, byte(n >> 8), byte(n)}) + all
	}
	return string([]byte{250, byte(n >> 16), byte(n >> 8), byte(n)}) + all
}

// listsOf are bytes within so many lists.
func listsOf(lists int, s string) string {
	for range lists {
		s = listOf(s)
	}
	return s
}

// brief keeps what a failed test tells short.
func brief(s string) string { return s[:min(len(s), 40)] }

// told is what Head tells.
type told struct {
	from, n int
	list    bool
	e       api.Errno
}

func head(s string, at int) told {
	from, n, list, e := unrlp.Head(s, at)
	return told{from, n, list, e}
}

func fault(e api.Errno) told { return told{e: e} }

// headOf is what Head tells, sentence by sentence of the chapter.
func headOf(s string, at int) told {
	if !(0 <= at && at <= len(s)) {
		return fault(api.ErrArg)
	}
	if at == len(s) {
		return fault(api.ErrShort)
	}
	b := s[at]
	if b < 128 {
		return told{at, 1, false, api.OK}
	}
	h := told{list: b >= 192}
	by := byte(128)
	if h.list {
		by = 192
	}
	if b >= by+56 {
		count := int(b - (by + 55))
		if count > 3 {
			return fault(api.ErrLong)
		}
		if at+count >= len(s) {
			return fault(api.ErrShort)
		}
		for _, d := range []byte(s[at+1 : at+1+count]) {
			h.n = 256*h.n + int(d)
		}
		if s[at+1] == 0 || h.n < 56 {
			return fault(api.ErrSpare)
		}
		h.from = at + 1 + count
	} else {
		h.n, h.from = int(b-by), at+1
	}
	if h.from+h.n > len(s) {
		return fault(api.ErrShort)
	}
	if b == 129 && s[h.from] < 128 {
		return fault(api.ErrSpare)
	}
	return h
}

// decodeOf is what Decode tells, sentence by sentence of the chapter.
func decodeOf(s string) (api.Item, api.Errno) {
	if len(s) > 65536 {
		return api.Item{}, api.ErrLong
	}
	it, end, e := itemOf(s, 0, 0)
	if e != api.OK {
		return api.Item{}, e
	}
	if end != len(s) {
		return api.Item{}, api.ErrTail
	}
	return it, api.OK
}

func itemOf(s string, at, lists int) (api.Item, int, api.Errno) {
	if at < len(s) && s[at] > 191 && lists >= 12 {
		return api.Item{}, 0, api.ErrDeep
	}
	h := headOf(s, at)
	if h.e != api.OK {
		return api.Item{}, 0, h.e
	}
	end := h.from + h.n
	if !h.list {
		return text(s[h.from:end]), end, api.OK
	}
	it := list()
	for h.from != end {
		if len(it.Items) == 512 {
			return api.Item{}, 0, api.ErrLong
		}
		in, next, e := itemOf(s[:end], h.from, lists+1)
		if e != api.OK {
			return api.Item{}, 0, e
		}
		it.Items = append(it.Items, in)
		h.from = next
	}
	return it, end, api.OK
}

// words are all texts of n bytes that are of those of letters.
func words(n int, letters string) []string {
	l := []string{""}
	for range n {
		var longer []string
		for _, s := range l {
			for i := range len(letters) {
				longer = append(longer, s+letters[i:i+1])
			}
		}
		l = longer
	}
	return l
}

// short are all texts of at most two bytes, and all of a few more that are made of the heads' edges.
func short() []string {
	every := make([]byte, 256)
	for i := range every {
		every[i] = byte(i)
	}
	var l []string
	for n := range 3 {
		l = append(l, words(n, string(every))...)
	}
	l = append(l, words(3, "\x00\x01\x37\x38\x7f\x80\x81\x82\xb7\xb8\xb9\xba\xbb\xbf\xc0\xc1\xc2\xf7\xf8\xf9\xfa\xfb\xff")...)
	l = append(l, words(4, "\x00\x7f\x80\x81\x82\xb8\xba\xbb\xc0\xc1\xc2\xc3\xf8")...)
	return append(l, words(6, "\x00\x81\x82\xc0\xc2\xc5")...)
}

// samples are items that look like chance, the same in each run, below all limits.
func samples() []api.Item {
	r := rand.New(rand.NewSource(3))
	var l []api.Item
	for range 600 {
		l = append(l, sample(r, 5))
	}
	return l
}

func sample(r *rand.Rand, deep int) api.Item {
	if deep > 0 && r.Intn(3) > 0 {
		it := list()
		for range r.Intn(5) {
			it.Items = append(it.Items, sample(r, deep-1))
		}
		return it
	}
	b := make([]byte, r.Intn(4)*r.Intn(4)*r.Intn(9))
	r.Read(b)
	return text(string(b))
}

// spoilt are the bytes of samples, with a few of them changed, left away or put in.
func spoilt() []string {
	r := rand.New(rand.NewSource(4))
	heads := "\x00\x7f\x80\x81\x82\xb7\xb8\xb9\xba\xbb\xbf\xc0\xc1\xc2\xf7\xf8\xf9\xfa\xfb\xff"
	var l []string
	for _, it := range samples() {
		s, _ := rlp.Encode(it)
		for range 8 {
			b := []byte(s)
			for range 1 + r.Intn(3) {
				at := r.Intn(len(b) + 1)
				letter := heads[r.Intn(len(heads))]
				switch {
				case at == len(b) || r.Intn(4) == 0:
					b = slices.Insert(b, at, letter)
				case r.Intn(4) == 0 && len(b) > 1:
					b = slices.Delete(b, at, at+1)
				case r.Intn(2) == 0:
					b[at]++
				default:
					b[at] = letter
				}
			}
			l = append(l, string(b))
		}
	}
	return l
}

// edges are items at the chapter's borders.
func edges() []api.Item {
	l := []api.Item{text(""), list(), list(text("\x01"), list()), list(text("")), list(list(), list(list()), list(list(), list(list())))}
	for b := range 256 {
		l = append(l, text(string([]byte{byte(b)})), list(text(string([]byte{byte(b)}))))
	}
	for _, n := range []int{2, 54, 55, 56, 57, 255, 256, 257, 65530, 65531, 65532, 65533} {
		l = append(l, text(ab(n)), text(strings.Repeat("\x00", n)))
	}
	for _, n := range []int{53, 54, 55, 56, 57, 254, 255, 256, 510, 511, 512} {
		l = append(l, many(n, text("\x05")), list(text(ab(n))), many(n, list()))
	}
	for n := 1; n <= 11; n++ {
		l = append(l, within(n, list()), within(n, text("\x01")), within(n, many(512, text("\x07"))))
	}
	return append(l, within(12, text("\x01")), within(12, text("")), list(text(ab(65530))), list(text(ab(65529)), text("\x05")),
		many(512, text(ab(125))), many(100, many(512, text("\x05"))))
}

func TestHeadAtTheEdges(t *testing.T) {
	for _, x := range []struct {
		s    string
		at   int
		want told
	}{
		{"", 0, fault(api.ErrShort)},
		{"", -1, fault(api.ErrArg)},
		{"", 1, fault(api.ErrArg)},
		{"\x05", -1, fault(api.ErrArg)},
		{"\x05", 0, told{0, 1, false, api.OK}},
		{"\x05", 1, fault(api.ErrShort)},
		{"\x05", 2, fault(api.ErrArg)},
		{"\x05", math.MinInt, fault(api.ErrArg)},
		{"\x05", math.MaxInt, fault(api.ErrArg)},
		// First bytes.
		{"\x00", 0, told{0, 1, false, api.OK}},
		{"\x7f", 0, told{0, 1, false, api.OK}},
		{"\x80", 0, told{1, 0, false, api.OK}},
		{"\x81\x80", 0, told{1, 1, false, api.OK}},
		{"\x81\xff", 0, told{1, 1, false, api.OK}},
		{"\x81\x7f", 0, fault(api.ErrSpare)},
		{"\x81\x00", 0, fault(api.ErrSpare)},
		{"\x81\x05", 0, fault(api.ErrSpare)},
		{"\x81", 0, fault(api.ErrShort)},
		{"\x82\x00\x00", 0, told{1, 2, false, api.OK}},
		{"\x82\x00", 0, fault(api.ErrShort)},
		{"\xb7" + ab(55), 0, told{1, 55, false, api.OK}},
		{"\xb7" + ab(54), 0, fault(api.ErrShort)},
		{"\xc0", 0, told{1, 0, true, api.OK}},
		{"\xc1\x05", 0, told{1, 1, true, api.OK}},
		{"\xc1", 0, fault(api.ErrShort)},
		{"\xc2\x01", 0, fault(api.ErrShort)},
		{"\xf7" + five(55), 0, told{1, 55, true, api.OK}},
		{"\xf7" + five(54), 0, fault(api.ErrShort)},
		// Only bytes are led by 129: a list of one byte is its own.
		{"\xc1\x7f", 0, told{1, 1, true, api.OK}},
		// A length in bytes of its own.
		{"\xb8\x37" + ab(55), 0, fault(api.ErrSpare)},
		{"\xb8\x38" + ab(56), 0, told{2, 56, false, api.OK}},
		{"\xb8\x38" + ab(55), 0, fault(api.ErrShort)},
		{"\xb8\x00", 0, fault(api.ErrSpare)},
		{"\xb8\xff" + ab(255), 0, told{2, 255, false, api.OK}},
		{"\xb8\xff" + ab(254), 0, fault(api.ErrShort)},
		{"\xb8", 0, fault(api.ErrShort)},
		{"\xb9\x01\x00" + ab(256), 0, told{3, 256, false, api.OK}},
		{"\xb9\x00\xff" + ab(255), 0, fault(api.ErrSpare)},
		{"\xb9\x01\x00" + ab(255), 0, fault(api.ErrShort)},
		{"\xb9\x01", 0, fault(api.ErrShort)},
		{"\xba\x01\x00\x00" + ab(65536), 0, told{4, 65536, false, api.OK}},
		{"\xba\x00\xff\xff" + ab(65535), 0, fault(api.ErrSpare)},
		{"\xba\x01\x00\x00" + ab(65535), 0, fault(api.ErrShort)},
		{"\xba\xff\xff\xff" + ab(1<<24-1), 0, told{4, 1<<24 - 1, false, api.OK}},
		{"\xba\x01\x00", 0, fault(api.ErrShort)},
		{"\xbb\x01\x00\x00\x00" + ab(100), 0, fault(api.ErrLong)},
		{"\xbf", 0, fault(api.ErrLong)},
		{"\xf8\x37" + five(55), 0, fault(api.ErrSpare)},
		{"\xf8\x38" + five(56), 0, told{2, 56, true, api.OK}},
		{"\xf8\x38" + five(55), 0, fault(api.ErrShort)},
		{"\xf8", 0, fault(api.ErrShort)},
		{"\xf9\x01\x00" + five(256), 0, told{3, 256, true, api.OK}},
		{"\xf9\x00\x38" + five(56), 0, fault(api.ErrSpare)},
		{"\xf9\x01", 0, fault(api.ErrShort)},
		{"\xfa\x01\x00\x00" + five(65536), 0, told{4, 65536, true, api.OK}},
		{"\xfa\x00\x01\x00" + five(256), 0, fault(api.ErrSpare)},
		{"\xfa\x01\x00", 0, fault(api.ErrShort)},
		{"\xfb\x01\x00\x00\x00" + five(100), 0, fault(api.ErrLong)},
		{"\xff", 0, fault(api.ErrLong)},
		// Behind other bytes, and ahead of others.
		{"\xff\xff\x83dog\xff", 2, told{3, 3, false, api.OK}},
		{"\xff\xff\x83dog\xff", 3, told{3, 1, false, api.OK}},
		{"\xff\xff\xc3\xff\xff\xff\xff", 2, told{3, 3, true, api.OK}},
		{"\xff\xb8\x38" + ab(60), 1, told{3, 56, false, api.OK}},
		{"\xff\xf9\x01\x00" + ab(260), 1, told{4, 256, true, api.OK}},
		{"\x05\x81\x7f", 1, fault(api.ErrSpare)},
		{"\x05\x81\x80", 1, told{2, 1, false, api.OK}},
		{"\x81\x80\xc0", 2, told{3, 0, true, api.OK}},
	} {
		if got := head(x.s, x.at); got != x.want {
			t.Errorf("Head(%x, %d) = %v, want %v", brief(x.s), x.at, got, x.want)
		}
	}
}

func TestHeadKeepsTheOrder(t *testing.T) {
	for _, x := range []struct {
		s  string
		at int
		e  api.Errno
	}{
		// A place that is none, whatever stands elsewhere.
		{"\xff", 2, api.ErrArg},
		{"\xb8\x00", -1, api.ErrArg},
		// Too many bytes of a length: neither there, nor without zeros, nor enough.
		{"\xbb", 0, api.ErrLong},
		{"\xbb\x00\x00", 0, api.ErrLong},
		{"\xbf\x00\x00\x00\x00\x00\x00\x00\x01", 0, api.ErrLong},
		{"\xfb", 0, api.ErrLong},
		{"\xfb\x00\x00", 0, api.ErrLong},
		{"\xff\x00\x00\x00\x00\x00\x00\x00\x01", 0, api.ErrLong},
		// Some of them not there, ahead of one that is 0.
		{"\xb9\x00", 0, api.ErrShort},
		{"\xba\x00\x00", 0, api.ErrShort},
		{"\xf9\x00", 0, api.ErrShort},
		{"\xfa\x00\x00", 0, api.ErrShort},
		// One that is 0, or too few, ahead of what is not there.
		{"\xb8\x37", 0, api.ErrSpare},
		{"\xb9\x00\xff", 0, api.ErrSpare},
		{"\xb9\x00\x37", 0, api.ErrSpare},
		{"\xba\x00\xff\xff", 0, api.ErrSpare},
		{"\xf8\x37", 0, api.ErrSpare},
		{"\xf9\x00\xff", 0, api.ErrSpare},
		{"\xfa\x00\x00\x01", 0, api.ErrSpare},
		// No byte there cannot be below 128.
		{"\x81", 0, api.ErrShort},
	} {
		if got := head(x.s, x.at); got != fault(x.e) {
			t.Errorf("Head(%x, %d) = %v, want %v", brief(x.s), x.at, got, x.e)
		}
	}
}

func TestHeadAndNext(t *testing.T) {
	seen := map[api.Errno]int{}
	for _, s := range append(short(), spoilt()...) {
		for at := -1; at <= min(len(s), 40)+1; at++ {
			want := headOf(s, at)
			seen[want.e]++
			if got := head(s, at); got != want {
				t.Errorf("Head(%x, %d) = %v, want %v", s, at, got, want)
			}
			if got, e := unrlp.Next(s, at); got != want.from+want.n || e != want.e {
				t.Errorf("Next(%x, %d) = %d, %v, want %d, %v", s, at, got, e, want.from+want.n, want.e)
			}
		}
	}
	for _, e := range []api.Errno{api.OK, api.ErrArg, api.ErrShort, api.ErrLong, api.ErrSpare} {
		if seen[e] < 1000 {
			t.Errorf("only %d places are told %v", seen[e], e)
		}
	}
}

func TestNextAtTheEdges(t *testing.T) {
	for _, x := range []struct {
		s    string
		at   int
		want int
		e    api.Errno
	}{
		{"", 0, 0, api.ErrShort},
		{"", 1, 0, api.ErrArg},
		{"\x05", 0, 1, api.OK},
		{"\x05", 1, 0, api.ErrShort},
		{"\x05", -1, 0, api.ErrArg},
		{"\x80", 0, 1, api.OK},
		{"\x83dog\x05", 0, 4, api.OK},
		{"\x83dog\x05", 4, 5, api.OK},
		{"\x05\x81\x7f", 1, 0, api.ErrSpare},
		{"\x05\xbb", 1, 0, api.ErrLong},
		{"\x05\xc2\x05", 1, 0, api.ErrShort},
		{"\x05\xb8\x38" + ab(57), 1, 59, api.OK},
		// What stands in a list is not asked.
		{"\x05\xc2\xff\xff\x05", 1, 4, api.OK},
	} {
		if got, e := unrlp.Next(x.s, x.at); got != x.want || e != x.e {
			t.Errorf("Next(%x, %d) = %d, %v, want %d, %v", brief(x.s), x.at, got, e, x.want, x.e)
		}
	}
}

// What begins an item is told at each place of it as in it alone.
func TestHeadHangsOnWhatStandsThereAlone(t *testing.T) {
	for _, it := range samples() {
		s, _ := rlp.Encode(it)
		alone, behind := head(s, 0), head("\xff\xb8\x00"+s+"\xff\xff", 3)
		alone.from += 3
		if alone != behind {
			t.Errorf("Head of %x: %v, but behind others %v", brief(s), alone, behind)
		}
		if next, e := unrlp.Next("\xff\xb8\x00"+s+"\xff\xff", 3); next != 3+len(s) || e != api.OK {
			t.Errorf("Next of %x = %d, %v", brief(s), next, e)
		}
	}
}

func TestDecodeAtTheEdges(t *testing.T) {
	for _, x := range []struct {
		s    string
		want api.Item
	}{
		{"\xc2\x01\xc0", list(text("\x01"), list())},
		{"\x80", text("")},
		{"\xc0", list()},
		{"\x00", text("\x00")},
		{"\x7f", text("\x7f")},
		{"\x81\x80", text("\x80")},
		{"\x81\xff", text("\xff")},
		{"\x82\x00\x00", text("\x00\x00")},
		{"\x83dog", text("dog")},
		{"\xb7" + ab(55), text(ab(55))},
		{"\xb8\x38" + ab(56), text(ab(56))},
		{"\xb8\xff" + ab(255), text(ab(255))},
		{"\xb9\x01\x00" + ab(256), text(ab(256))},
		{"\xb9\xff\xfd" + ab(65533), text(ab(65533))},
		{"\xc1\x80", list(text(""))},
		{"\xc2\x81\x80", list(text("\x80"))},
		{"\xc8\x83cat\x83dog", list(text("cat"), text("dog"))},
		{"\xc7\xc0\xc1\xc0\xc3\xc0\xc1\xc0", list(list(), list(list()), list(list(), list(list())))},
		{"\xf7" + five(55), many(55, text("\x05"))},
		{"\xf8\x38" + five(56), many(56, text("\x05"))},
		{"\xf9\x01\x00" + five(256), many(256, text("\x05"))},
		{"\xf9\x01\xff" + five(511), many(511, text("\x05"))},
		{"\xf9\x02\x00" + five(512), many(512, text("\x05"))},
		{"\xc5" + "\xc2\x01\x02" + "\xc1\x03", list(list(text("\x01"), text("\x02")), list(text("\x03")))},
		{"\xcb\xca\xc9\xc8\xc7\xc6\xc5\xc4\xc3\xc2\xc1\xc0", within(11, list())},
		{"\xcc\xcb\xca\xc9\xc8\xc7\xc6\xc5\xc4\xc3\xc2\xc1\x01", within(12, text("\x01"))},
		// Once out of lists others may be as deep.
		{listOf(listsOf(11, "\x05"), listsOf(11, "\x05"), listsOf(10, "\xc0")), list(within(11, text("\x05")), within(11, text("\x05")), within(10, list()))},
		// 512 items each, one behind the other.
		{listOf(listOf(five(512)), listOf(five(512)), "\x05"), list(many(512, text("\x05")), many(512, text("\x05")), text("\x05"))},
	} {
		got, e := unrlp.Decode(x.s)
		if !rlp.Same(got, x.want) || e != api.OK {
			t.Errorf("Decode(%x) has %d items and %d bytes, %v", brief(x.s), len(got.Items), len(got.Bytes), e)
		}
	}
}

func TestDecodeTellsFaults(t *testing.T) {
	for i, x := range []struct {
		s string
		e api.Errno
	}{
		{"", api.ErrShort},
		{"\x81\x05", api.ErrSpare},
		{"\xc2\x01", api.ErrShort},
		// More than 65536 bytes, whatever they are.
		{"\xb9\xff\xfe" + ab(65534), api.ErrLong},
		{strings.Repeat("\x05", 65537), api.ErrLong},
		{"\xba\x00" + ab(65535), api.ErrLong},
		{"\x05" + ab(65535), api.ErrTail},
		{"\xb9\xff\xfd" + ab(65532), api.ErrShort},
		{"\xb9\xff\xfc" + ab(65533), api.ErrTail},
		// Head's.
		{"\x81", api.ErrShort},
		{"\x81\x7f", api.ErrSpare},
		{"\xb8\x37" + ab(55), api.ErrSpare},
		{"\xb9\x00\x38" + ab(56), api.ErrSpare},
		{"\xbb\x01\x00\x00\x00", api.ErrLong},
		{"\xff", api.ErrLong},
		{"\xf8\x37" + five(55), api.ErrSpare},
		{"\xf8\x38" + five(55), api.ErrShort},
		// Something behind.
		{"\x05\x05", api.ErrTail},
		{"\x80\x80", api.ErrTail},
		{"\xc0\x00", api.ErrTail},
		{"\x83dogs", api.ErrTail},
		{"\xc1\x05\x05", api.ErrTail},
		{"\xb8\x38" + ab(57), api.ErrTail},
		{"\x05\xff", api.ErrTail},
		// Items that end beyond the end of the list that they stand in.
		{"\xc2\x83dog", api.ErrShort},
		{"\xc1\x81\x80", api.ErrShort},
		{"\xc1\x81\x05", api.ErrShort},
		{"\xc3\xc3\x01\x02\x03", api.ErrShort},
		{"\xc4\xc2\x82\x05\x05", api.ErrShort},
		{"\xc1\xb8\x38" + ab(56), api.ErrShort},
		{"\xc2\xb9\x01\x00" + ab(256), api.ErrShort},
		{"\xc2\x01\x82\x05\x05", api.ErrShort},
		{"\xc3\xc1\x82\x05\x05", api.ErrShort},
		{"\xc2\xf8\x38" + five(56), api.ErrShort},
		// What is wrong with items in lists.
		{"\xc2\x81\x05", api.ErrSpare},
		{"\xc4\x01\xc2\x81\x05", api.ErrSpare},
		{"\xc1\xbb", api.ErrLong},
		{"\xc2\x01\xff", api.ErrLong},
		{"\xc3\xc1\xc1\x05", api.ErrShort},
		// Lists of many items.
		{listOf(five(513)), api.ErrLong},
		{listOf(five(600)), api.ErrLong},
		{listOf("\x05", listOf(five(513))), api.ErrLong},
		{listsOf(11, listOf(five(513))), api.ErrLong},
		{listOf(strings.Repeat("\xc0", 513)), api.ErrLong},
		// Lists in many lists.
		{listsOf(12, "\xc0"), api.ErrDeep},
		{listsOf(13, "\x05"), api.ErrDeep},
		{listsOf(55, "\x05"), api.ErrDeep},
		{listOf("\x05", listsOf(11, "\xc0")), api.ErrDeep},
		{listOf(listsOf(10, "\xc0"), listsOf(11, "\xc0")), api.ErrDeep},
		{listsOf(11, listOf("\x05", "\xc0")), api.ErrDeep},
	} {
		if got, e := unrlp.Decode(x.s); e != x.e || !reflect.DeepEqual(got, api.Item{}) {
			t.Errorf("%d: Decode(%x) = %v, want %v", i, brief(x.s), e, x.e)
		}
	}
}

func TestDecodeKeepsTheOrder(t *testing.T) {
	const short, spare, long = "\x82\x05", "\x81\x05", "\xbb"
	for i, x := range []struct {
		s string
		e api.Errno
	}{
		// All bytes, ahead of all else.
		{listsOf(13, "\x05") + ab(65536), api.ErrLong},
		{spare + ab(65535), api.ErrLong},
		{"\xc0" + ab(65536), api.ErrLong},
		{spare + ab(65534), api.ErrSpare},
		// The first error ends it.
		{listOf(spare, long), api.ErrSpare},
		{listOf(long, spare), api.ErrLong},
		{listOf(listsOf(11, "\xc0"), spare), api.ErrDeep},
		{listOf(spare, listsOf(11, "\xc0")), api.ErrSpare},
		{listOf(listOf(spare), long), api.ErrSpare},
		{listOf(listOf("\x05", long), spare), api.ErrLong},
		{listOf("\x05", listOf(short), spare), api.ErrShort},
		{listOf(listOf(five(513)), spare), api.ErrLong},
		{listOf(spare, listOf(five(513))), api.ErrSpare},
		{listOf(five(511), spare, "\x05"), api.ErrSpare},
		{listOf(five(510), spare, five(3)), api.ErrSpare},
		// A list's own head, ahead of what stands in it.
		{"\xc4" + spare, api.ErrShort},
		{"\xf8\x37" + spare + five(53), api.ErrSpare},
		{"\xf8\x38" + spare, api.ErrShort},
		{"\xc5\xc4" + spare + long, api.ErrShort},
		// At the 513th item, ahead of all else of it.
		{listOf(five(512), spare), api.ErrLong},
		{listOf(five(512), "\x82"), api.ErrLong},
		{listOf(five(512), "\xb8\x00"), api.ErrLong},
		{listsOf(11, listOf(five(512), "\xc0")), api.ErrLong},
		{listsOf(11, listOf(five(512), "\xc1")), api.ErrLong},
		{listsOf(11, listOf(five(511), "\xc0\xc0")), api.ErrDeep},
		// At a list in 12 lists, ahead of Head's.
		{listsOf(12, "\xc1"), api.ErrDeep},
		{listsOf(12, "\xff"), api.ErrDeep},
		{listsOf(12, "\xf8\x00"), api.ErrDeep},
		{listsOf(12, "\xf8"), api.ErrDeep},
		{listsOf(12, "\xf9\x00\x01"), api.ErrDeep},
		{listsOf(12, "\xc2"+spare), api.ErrDeep},
		// But not at bytes there, nor at a list in 11.
		{listsOf(12, "\xbf"), api.ErrLong},
		{listsOf(12, "\xb8\x00"), api.ErrSpare},
		{listsOf(12, "\x81"), api.ErrShort},
		{listsOf(11, "\xc1"), api.ErrShort},
		{listsOf(11, "\xff"), api.ErrLong},
		{listsOf(11, "\xf8\x00"), api.ErrSpare},
		// Then what is behind the item.
		{spare + "\x05", api.ErrSpare},
		{listOf(spare) + "\x05", api.ErrSpare},
		{listOf("\x82\x05") + "\x05", api.ErrShort},
		{listsOf(13, "\x05") + "\x05", api.ErrDeep},
		{listOf(five(513)) + "\x05", api.ErrLong},
		{long + "\x05", api.ErrLong},
		{"\xc0" + spare, api.ErrTail},
		{"\xc0" + long, api.ErrTail},
	} {
		if got, e := unrlp.Decode(x.s); e != x.e || !reflect.DeepEqual(got, api.Item{}) {
			t.Errorf("%d: Decode(%x) = %v, want %v", i, brief(x.s), e, x.e)
		}
	}
}

// What is encoded is decoded as the same item.
func TestDecodeWhatIsEncoded(t *testing.T) {
	for i, it := range append(edges(), samples()...) {
		s, e := rlp.Encode(it)
		if e != api.OK {
			t.Fatalf("%d: Encode = %v", i, e)
		}
		if got, e := unrlp.Decode(s); !rlp.Same(got, it) || e != api.OK {
			t.Errorf("%d: Decode(%x) is another item, %v", i, brief(s), e)
		}
		if next, e := unrlp.Next(s, 0); next != len(s) || e != api.OK {
			t.Errorf("%d: Next(%x) = %d, %v", i, brief(s), next, e)
		}
	}
}

// Of any bytes that are decoded these are the item's, and of any that are not no item's.
func TestDecodeNothingElse(t *testing.T) {
	seen := map[api.Errno]int{}
	for _, s := range append(short(), spoilt()...) {
		want, e := decodeOf(s)
		got, f := unrlp.Decode(s)
		if !rlp.Same(got, want) || f != e {
			t.Errorf("Decode(%x) = %v, %v, want %v, %v", s, got, f, want, e)
		}
		seen[e]++
		if e != api.OK && !reflect.DeepEqual(got, api.Item{}) {
			t.Errorf("Decode(%x) tells an item beside %v", s, f)
		}
		if f != api.OK {
			continue
		}
		if again, e := rlp.Encode(got); again != s || e != api.OK {
			t.Errorf("Decode(%x) is encoded to %x, %v", s, again, e)
		}
	}
	for e, least := range map[api.Errno]int{api.OK: 1000, api.ErrShort: 1000, api.ErrTail: 1000, api.ErrLong: 1000, api.ErrSpare: 1000} {
		if seen[e] < least {
			t.Errorf("only %d texts are told %v", seen[e], e)
		}
	}
}

// Each item of a few bytes has its own text, and Decode takes these texts and no other one.
func TestDecodeTakesJustTheItemsBytes(t *testing.T) {
	const letters, most = "\x00\x7f\x80\x81\xc0\xc1\xc2\xc3", 5
	items := map[string]bool{}
	for _, it := range small(most) {
		s, e := rlp.Encode(it)
		if e != api.OK {
			t.Fatal(e)
		}
		items[s] = true
	}
	taken := 0
	for n := range most + 1 {
		for _, s := range words(n, letters) {
			_, e := unrlp.Decode(s)
			if (e == api.OK) != items[s] {
				t.Errorf("Decode(%x) = %v, but an item has these bytes: %v", s, e, items[s])
			}
			if e == api.OK {
				taken++
			}
		}
	}
	if taken < 200 {
		t.Errorf("only %d items", taken)
	}
}

// small are all items of at most so many bytes, whose bytes are a few.
func small(most int) []api.Item {
	var l []api.Item
	for n := range most {
		for _, s := range words(n, "\x00\x7f\x80\x81\xc0\xc1\xc2\xc3") {
			if it := text(s); rlp.Size(it) <= most {
				l = append(l, it)
			}
		}
	}
	for _, own := range rows(most - 1) {
		l = append(l, list(own...))
	}
	return l
}

// rows are all rows of items that are at most so many bytes.
func rows(most int) [][]api.Item {
	l := [][]api.Item{nil}
	if most <= 0 {
		return l
	}
	for _, first := range small(most) {
		for _, rest := range rows(most - rlp.Size(first)) {
			l = append(l, append([]api.Item{first}, rest...))
		}
	}
	return l
}

// No item's bytes are decoded with their last one away, nor with another one behind them.
func TestDecodeOfABytesLess(t *testing.T) {
	for i, it := range edges() {
		s, _ := rlp.Encode(it)
		if got, e := unrlp.Decode(s[:len(s)-1]); e != api.ErrShort || !reflect.DeepEqual(got, api.Item{}) {
			t.Errorf("%d: Decode of a byte less = %v", i, e)
		}
		want := api.ErrTail
		if len(s) == 65536 {
			want = api.ErrLong
		}
		if got, e := unrlp.Decode(s + "\x00"); e != want || !reflect.DeepEqual(got, api.Item{}) {
			t.Errorf("%d: Decode of a byte more = %v, want %v", i, e, want)
		}
	}
}

func TestTheSameIsToldAgain(t *testing.T) {
	for _, s := range spoilt() {
		first, e := unrlp.Decode(s)
		second, f := unrlp.Decode(s)
		if !rlp.Same(first, second) || e != f || head(s, 0) != head(s, 0) {
			t.Errorf("Decode(%x) tells something else the second time", brief(s))
		}
	}
}

// What is decoded is kept without the bytes that it was decoded of.
func TestDecodedBytesAreNewMemory(t *testing.T) {
	s := strings.Clone("\xc9\x83dog\x82at\xc1\x05")
	it, e := unrlp.Decode(s)
	if e != api.OK {
		t.Fatal(e)
	}
	first := uintptr(unsafe.Pointer(unsafe.StringData(s)))
	for _, in := range []api.Item{it.Items[0], it.Items[1], it.Items[2].Items[0]} {
		own := uintptr(unsafe.Pointer(unsafe.StringData(in.Bytes)))
		if first <= own && own < first+uintptr(len(s)) {
			t.Errorf("%q stands in the argument's memory", in.Bytes)
		}
	}
}

// Two answers share no list: what is changed in one stays in the other.
func TestAnswersShareNothing(t *testing.T) {
	const s = "\xc5\xc2\x01\x02\xc1\x03"
	want := list(list(text("\x01"), text("\x02")), list(text("\x03")))
	first, _ := unrlp.Decode(s)
	second, _ := unrlp.Decode(s)
	first.Items[0].Items = append(first.Items[0].Items[:1], text("x"), text("y"))
	first.Items[0].Items[0] = text("z")
	if !rlp.Same(first.Items[1], list(text("\x03"))) {
		t.Error("two lists of an answer share memory")
	}
	first.Items[1] = text("")
	if third, e := unrlp.Decode(s); !rlp.Same(second, want) || !rlp.Same(third, want) || e != api.OK {
		t.Error("answers share memory")
	}
}

// Whatever it is given, a call ends: also with far more bytes than an item may have.
func TestAllEndsAtAllBytes(t *testing.T) {
	for b := range 256 {
		for _, n := range []int{1, 2, 3, 4, 100, 65536, 65537, 1 << 20} {
			s := strings.Repeat(string([]byte{byte(b)}), n)
			want, e := decodeOf(s)
			if got, f := unrlp.Decode(s); !rlp.Same(got, want) || f != e {
				t.Errorf("Decode of %d times %d = %v, want %v", n, b, f, e)
			}
			for _, at := range []int{math.MinInt, -1, 0, 1, n - 1, n, n + 1, math.MaxInt} {
				if got, want := head(s, at), headOf(s, at); got != want {
					t.Errorf("Head of %d times %d at %d = %v, want %v", n, b, at, got, want)
				}
			}
		}
	}
}
