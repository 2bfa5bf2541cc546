package field_test

import (
	"math"
	"math/big"
	"math/rand"
	"slices"
	"strings"
	"testing"
	"unsafe"

	"rescript/api"
	"rescript/field"
	"rescript/num"
	"rescript/rlp"
	"rescript/unrlp"
	"rescript/word"
)

func text(s string) api.Item { return api.Item{Bytes: s} }

func list(l ...api.Item) api.Item { return api.Item{List: true, Items: l} }

// Neither bytes nor lists.
func listWithBytes(s string, l ...api.Item) api.Item {
	return api.Item{List: true, Bytes: s, Items: l}
}

func bytesWithItems(s string, l ...api.Item) api.Item { return api.Item{Bytes: s, Items: l} }

// ab are bytes of so many.
func ab(n int) string { return strings.Repeat("\xab", n) }

// many is a list of an item so many times.
func many(n int, it api.Item) api.Item { return list(slices.Repeat([]api.Item{it}, n)...) }

// within is an item that stands in so many lists.
func within(lists int, it api.Item) api.Item {
	for range lists {
		it = list(it)
	}
	return it
}

// copyOf is an item in memory of its own.
func copyOf(it api.Item) api.Item {
	own := api.Item{List: it.List, Bytes: strings.Clone(it.Bytes)}
	for _, in := range it.Items {
		own.Items = append(own.Items, copyOf(in))
	}
	return own
}

// same tells whether items are alike, one by one.
func same(a, b []api.Item) bool { return slices.EqualFunc(a, b, rlp.Same) }

// brief keeps what a failed test tells short.
func brief(it api.Item) api.Item {
	return api.Item{List: it.List, Bytes: it.Bytes[:min(len(it.Bytes), 40)], Items: it.Items[:min(len(it.Items), 4)]}
}

// top is the greatest number of 64 bits, greatest the greatest word.
const top = math.MaxUint64

func greatest() api.Word { return api.Word{top, top, top, top} }

// numbers are those at the edges of their bytes, and some that look like chance.
func numbers() []uint64 {
	l := []uint64{0, 1, 127, 128, 255, 256, 257, 258, 65535, 65536, top - 1, top}
	for i := range 64 {
		l = append(l, 1<<i-1, 1<<i, 1<<i+1)
	}
	r := rand.New(rand.NewSource(5))
	for range 500 {
		l = append(l, r.Uint64()>>r.Intn(64))
	}
	return l
}

// wholes are words of all lengths of bytes.
func wholes() []api.Word {
	l := []api.Word{{}, {1}, {top}, {0, 1}, {0, 0, 1}, {0, 0, 0, 1}, {0, 0, 0, 1 << 63}, {0, top, 0, 0}, {1, 2, 3, 4}, greatest()}
	for i := range 256 {
		one := api.Word{}
		one[i/64] = 1 << (i % 64)
		less, _ := word.Sub(one, word.Of(1))
		l = append(l, one, less)
	}
	r := rand.New(rand.NewSource(6))
	for range 500 {
		w := api.Word{}
		for i := range 1 + r.Intn(4) {
			w[i] = r.Uint64()
		}
		l = append(l, w)
	}
	return l
}

// texts are bytes of which some are a number's, a word's, an address, and others none of these.
func texts() []string {
	l := []string{""}
	for b := range 256 {
		l = append(l, string([]byte{byte(b)}), string([]byte{0, byte(b)}), string([]byte{byte(b), 0}), string([]byte{1, byte(b)}))
	}
	for _, n := range []int{2, 3, 7, 8, 9, 10, 19, 20, 21, 31, 32, 33, 40, 64, 100, 1000} {
		for _, b := range []string{"\x00", "\x01", "\x7f", "\x80", "\xab", "\xff"} {
			l = append(l, strings.Repeat(b, n), "\x00"+strings.Repeat(b, n-1), "\x01"+strings.Repeat(b, n-1))
		}
	}
	return l
}

// samples are items, the same in each run; some of them are neither bytes nor lists, or hold such ones.
func samples() []api.Item {
	r := rand.New(rand.NewSource(7))
	var l []api.Item
	for range 1500 {
		l = append(l, sample(r, 3))
	}
	return l
}

func sample(r *rand.Rand, deep int) api.Item {
	lengths := []int{0, 0, 1, 1, 2, 8, 9, 19, 20, 21, 32, 33}
	b := make([]byte, lengths[r.Intn(len(lengths))])
	for i := range b {
		b[i] = []byte{0, 1, 1, 2, 127, 128, 255}[r.Intn(7)]
	}
	if deep == 0 || r.Intn(3) == 0 {
		return text(string(b))
	}
	it := list()
	for range r.Intn(5) {
		it.Items = append(it.Items, sample(r, deep-1))
	}
	switch r.Intn(8) {
	case 0:
		it.Bytes = string(b)
	case 1:
		it.Bytes, it.List = string(b), false
	}
	return it
}

// items are all that the Get calls are tried with.
func items() []api.Item {
	l := samples()
	for _, s := range texts() {
		l = append(l, text(s), list(text(s)), list(text(""), text(s)), listWithBytes(s), bytesWithItems(s, text(s)))
	}
	for n := range 8 {
		l = append(l, many(n, text("")), many(n, text("\x01")), many(n, text(ab(20))), many(n, list()))
		if n > 0 {
			l = append(l, within(n, text("\x01")), within(n, list()))
		}
	}
	return append(l, api.Item{Items: []api.Item{}}, api.Item{List: true, Items: []api.Item{}},
		many(512, text(ab(3))), many(513, text("")), text(ab(70000)))
}

// isBytes and isList tell what an item is, sentence by sentence of chapter 4.
func isBytes(it api.Item) bool { return !it.List && len(it.Items) == 0 }

func isList(it api.Item) bool { return it.List && it.Bytes == "" }

// numberOf is a number of bytes, below 2^(8*most) and without zeros ahead; big numbers tell it.
func numberOf(it api.Item, most int) (*big.Int, api.Errno) {
	none := new(big.Int)
	if !isBytes(it) {
		return none, api.ErrForm
	}
	if len(it.Bytes) > most {
		return none, api.ErrLong
	}
	if it.Bytes != "" && it.Bytes[0] == 0 {
		return none, api.ErrSpare
	}
	return new(big.Int).SetBytes([]byte(it.Bytes)), api.OK
}

// bigOf is a word as a big number.
func bigOf(w api.Word) *big.Int {
	all := new(big.Int)
	for i := range w {
		part := new(big.Int).SetUint64(w[len(w)-1-i])
		all.Add(all.Lsh(all, 64), part)
	}
	return all
}

// textOf, boolOf, listOf, textsOf and addrOf are what the calls tell, sentence by sentence of the chapter.
func textOf(it api.Item, least, most int) (string, api.Errno) {
	if !isBytes(it) {
		return "", api.ErrForm
	}
	if len(it.Bytes) < least {
		return "", api.ErrShort
	}
	if len(it.Bytes) > most {
		return "", api.ErrLong
	}
	return it.Bytes, api.OK
}

func boolOf(it api.Item) (bool, api.Errno) {
	if isBytes(it) && len(it.Bytes) == 0 {
		return false, api.OK
	}
	if isBytes(it) && len(it.Bytes) == 1 && it.Bytes[0] == 1 {
		return true, api.OK
	}
	return false, api.ErrForm
}

func listOf(it api.Item, least, most int) ([]api.Item, api.Errno) {
	if !isList(it) {
		return nil, api.ErrForm
	}
	if len(it.Items) < least {
		return nil, api.ErrShort
	}
	if len(it.Items) > most {
		return nil, api.ErrLong
	}
	return it.Items, api.OK
}

func textsOf(it api.Item, many, least, most int) ([]string, api.Errno) {
	l, e := listOf(it, 0, many)
	if e != api.OK {
		return nil, e
	}
	var all []string
	for _, in := range l {
		s, e := textOf(in, least, most)
		if e != api.OK {
			return nil, e
		}
		all = append(all, s)
	}
	return all, api.OK
}

func addrOf(it api.Item) (string, api.Errno) {
	if isBytes(it) && (len(it.Bytes) == 0 || len(it.Bytes) == 20) {
		return it.Bytes, api.OK
	}
	return "", api.ErrForm
}

// bounds are numbers that a least or a most may be; each is tried with each.
func bounds() []int {
	return []int{math.MinInt, -20, -1, 0, 1, 2, 3, 19, 20, 21, 32, 513, math.MaxInt}
}

func TestWrittenAtTheEdges(t *testing.T) {
	for _, x := range []struct {
		name      string
		got, want api.Item
	}{
		{"Number 0", field.Number(0), text("")},
		{"Number 1", field.Number(1), text("\x01")},
		{"Number 127", field.Number(127), text("\x7f")},
		{"Number 128", field.Number(128), text("\x80")},
		{"Number 255", field.Number(255), text("\xff")},
		{"Number 256", field.Number(256), text("\x01\x00")},
		{"the greatest Number", field.Number(top), text("\xff\xff\xff\xff\xff\xff\xff\xff")},
		{"Word 0", field.Word(api.Word{}), text("")},
		{"Word 1", field.Word(word.Of(1)), text("\x01")},
		{"Word 255", field.Word(word.Of(255)), text("\xff")},
		{"Word 2^64-1", field.Word(word.Of(top)), text("\xff\xff\xff\xff\xff\xff\xff\xff")},
		{"Word 2^64", field.Word(api.Word{0, 1}), text("\x01\x00\x00\x00\x00\x00\x00\x00\x00")},
		{"Word 2^128+2", field.Word(api.Word{2, 0, 1}), text("\x01" + strings.Repeat("\x00", 15) + "\x02")},
		{"Word 2^255", field.Word(api.Word{0, 0, 0, 1 << 63}), text("\x80" + strings.Repeat("\x00", 31))},
		{"the greatest Word", field.Word(greatest()), text(strings.Repeat("\xff", 32))},
		{"Text of none", field.Text(""), text("")},
		{"Text of a 0", field.Text("\x00"), text("\x00")},
		{"Text", field.Text("\x00dog\x00"), text("\x00dog\x00")},
		{"Text of many", field.Text(ab(70000)), text(ab(70000))},
		{"Bool false", field.Bool(false), text("")},
		{"Bool true", field.Bool(true), text("\x01")},
		{"List of none", field.List(), list()},
		{"List of one", field.List(text("")), list(text(""))},
		{"List of two", field.List(text("\x01"), list()), list(text("\x01"), list())},
		{"List of lists", field.List(list(text("a")), list(list(text("b")), text("c"))), list(list(text("a")), list(list(text("b")), text("c")))},
		{"List of what is none", field.List(listWithBytes("a"), bytesWithItems("b", text("c"))), list(listWithBytes("a"), bytesWithItems("b", text("c")))},
		{"List of many", field.List(many(600, text("a")).Items...), many(600, text("a"))},
		{"Texts of none", field.Texts(nil), list()},
		{"Texts of none there", field.Texts([]string{}), list()},
		{"Texts of no bytes", field.Texts([]string{""}), list(text(""))},
		{"Texts in order", field.Texts([]string{"b", "", "a", "\x00"}), list(text("b"), text(""), text("a"), text("\x00"))},
		{"Texts of many", field.Texts(slices.Repeat([]string{"ab"}, 600)), many(600, text("ab"))},
	} {
		if !rlp.Same(x.got, x.want) {
			t.Errorf("%s is %v, want %v", x.name, brief(x.got), brief(x.want))
		}
	}
}

func TestNumbersAreTheirBytes(t *testing.T) {
	for _, n := range numbers() {
		if got, want := field.Number(n), text(num.Be(n)); !rlp.Same(got, want) {
			t.Errorf("Number(%d) = %v, want %v", n, got, want)
		}
		if got, want := field.Number(n), field.Word(word.Of(n)); !rlp.Same(got, want) {
			t.Errorf("Number(%d) = %v, but as a word %v", n, got, want)
		}
	}
	for _, w := range wholes() {
		if got, want := field.Word(w), text(string(bigOf(w).Bytes())); !rlp.Same(got, want) {
			t.Errorf("Word(%v) = %v, want %v", w, got, want)
		}
	}
}

func TestGetNumberAtTheEdges(t *testing.T) {
	for _, x := range []struct {
		it   api.Item
		want uint64
		e    api.Errno
	}{
		{text(""), 0, api.OK},
		{text("\x00"), 0, api.ErrSpare},
		{text("\x01"), 1, api.OK},
		{text("\x7f"), 127, api.OK},
		{text("\x80"), 128, api.OK},
		{text("\xff"), 255, api.OK},
		{text("\x01\x00"), 256, api.OK},
		{text("\x00\x01"), 0, api.ErrSpare},
		{text("\x80\x00\x00\x00\x00\x00\x00\x00"), 1 << 63, api.OK},
		{text("\xff\xff\xff\xff\xff\xff\xff\xff"), top, api.OK},
		{text("\x00\xff\xff\xff\xff\xff\xff\xff"), 0, api.ErrSpare},
		{text("\x01\x00\x00\x00\x00\x00\x00\x00\x00"), 0, api.ErrLong},
		{text("\x00\xff\xff\xff\xff\xff\xff\xff\xff"), 0, api.ErrLong},
		{text(ab(70000)), 0, api.ErrLong},
		{list(), 0, api.ErrForm},
		{list(text("\x01")), 0, api.ErrForm},
		{list(text(ab(9)), text("\x00")), 0, api.ErrForm},
		{listWithBytes("\x01"), 0, api.ErrForm},
		{listWithBytes("\x00"), 0, api.ErrForm},
		{listWithBytes(ab(9)), 0, api.ErrForm},
		{bytesWithItems("\x01", text("\x01")), 0, api.ErrForm},
		{bytesWithItems(ab(9), list()), 0, api.ErrForm},
	} {
		if got, e := field.GetNumber(x.it); got != x.want || e != x.e {
			t.Errorf("GetNumber(%v) = %d, %v, want %d, %v", brief(x.it), got, e, x.want, x.e)
		}
	}
}

func TestGetWordAtTheEdges(t *testing.T) {
	for _, x := range []struct {
		it   api.Item
		want api.Word
		e    api.Errno
	}{
		{text(""), api.Word{}, api.OK},
		{text("\x00"), api.Word{}, api.ErrSpare},
		{text("\x01"), api.Word{1}, api.OK},
		{text("\xff"), api.Word{255}, api.OK},
		{text("\x01\x00"), api.Word{256}, api.OK},
		{text("\xff\xff\xff\xff\xff\xff\xff\xff"), api.Word{top}, api.OK},
		{text("\x01\x00\x00\x00\x00\x00\x00\x00\x02"), api.Word{2, 1}, api.OK},
		{text("\x00\x01\x00\x00\x00\x00\x00\x00\x02"), api.Word{}, api.ErrSpare},
		{text("\x01" + strings.Repeat("\x00", 31)), api.Word{0, 0, 0, 1 << 56}, api.OK},
		{text(strings.Repeat("\xff", 32)), greatest(), api.OK},
		{text("\x00" + strings.Repeat("\xff", 31)), api.Word{}, api.ErrSpare},
		{text("\x01" + strings.Repeat("\x00", 32)), api.Word{}, api.ErrLong},
		{text("\x00" + strings.Repeat("\xff", 32)), api.Word{}, api.ErrLong},
		{text(ab(70000)), api.Word{}, api.ErrLong},
		{list(), api.Word{}, api.ErrForm},
		{list(text("\x01")), api.Word{}, api.ErrForm},
		{list(text(ab(33)), text("\x00")), api.Word{}, api.ErrForm},
		{listWithBytes("\x01"), api.Word{}, api.ErrForm},
		{listWithBytes("\x00"), api.Word{}, api.ErrForm},
		{listWithBytes(ab(33)), api.Word{}, api.ErrForm},
		{bytesWithItems("\x01", text("\x01")), api.Word{}, api.ErrForm},
		{bytesWithItems(ab(33), list()), api.Word{}, api.ErrForm},
	} {
		if got, e := field.GetWord(x.it); got != x.want || e != x.e {
			t.Errorf("GetWord(%v) = %v, %v, want %v, %v", brief(x.it), got, e, x.want, x.e)
		}
	}
}

func TestGetTextAtTheEdges(t *testing.T) {
	for _, x := range []struct {
		it          api.Item
		least, most int
		want        string
		e           api.Errno
	}{
		{text(""), 0, 0, "", api.OK},
		{text(""), 0, 32, "", api.OK},
		{text(""), 1, 32, "", api.ErrShort},
		{text("a"), 0, 0, "", api.ErrLong},
		{text("\x00"), 1, 1, "\x00", api.OK},
		{text("\x00dog"), 0, 4, "\x00dog", api.OK},
		{text(ab(31)), 32, 32, "", api.ErrShort},
		{text(ab(32)), 32, 32, ab(32), api.OK},
		{text(ab(33)), 32, 32, "", api.ErrLong},
		{text(ab(3)), 4, 6, "", api.ErrShort},
		{text(ab(4)), 4, 6, ab(4), api.OK},
		{text(ab(5)), 4, 6, ab(5), api.OK},
		{text(ab(6)), 4, 6, ab(6), api.OK},
		{text(ab(7)), 4, 6, "", api.ErrLong},
		{text(ab(70000)), 0, math.MaxInt, ab(70000), api.OK},
		// A least that is more than the most: too few is told first, and nothing is left that is right.
		{text(ab(2)), 6, 4, "", api.ErrShort},
		{text(ab(4)), 6, 4, "", api.ErrShort},
		{text(ab(5)), 6, 4, "", api.ErrShort},
		{text(ab(6)), 6, 4, "", api.ErrLong},
		{text(ab(7)), 6, 4, "", api.ErrLong},
		{text(""), 1, 0, "", api.ErrShort},
		{text("a"), 1, 0, "", api.ErrLong},
		{text(""), math.MaxInt, math.MinInt, "", api.ErrShort},
		// Numbers below 0.
		{text(""), -1, 0, "", api.OK},
		{text("a"), -1, 1, "a", api.OK},
		{text("a"), math.MinInt, 1, "a", api.OK},
		{text(""), -1, -1, "", api.ErrLong},
		{text(""), 0, -1, "", api.ErrLong},
		{text("a"), math.MinInt, math.MinInt, "", api.ErrLong},
		{text(""), -2, -3, "", api.ErrLong},
		// A list first, whatever the numbers.
		{list(), 0, 0, "", api.ErrForm},
		{list(), 1, 2, "", api.ErrForm},
		{list(text("a")), 0, 5, "", api.ErrForm},
		{list(text("a"), text("b")), 0, 0, "", api.ErrForm},
		{list(), 1, -1, "", api.ErrForm},
		{listWithBytes("abc"), 4, 5, "", api.ErrForm},
		{listWithBytes("abc"), 0, 5, "", api.ErrForm},
		{bytesWithItems("abc", text("d")), 0, 5, "", api.ErrForm},
		{bytesWithItems("abc", text("d")), 0, 1, "", api.ErrForm},
		{bytesWithItems("abc", text("d")), 4, 5, "", api.ErrForm},
	} {
		if got, e := field.GetText(x.it, x.least, x.most); got != x.want || e != x.e {
			t.Errorf("GetText(%v, %d, %d) = %d bytes, %v, want %d, %v", brief(x.it), x.least, x.most, len(got), e, len(x.want), x.e)
		}
	}
}

func TestGetBoolAtTheEdges(t *testing.T) {
	for _, x := range []struct {
		it   api.Item
		want bool
		e    api.Errno
	}{
		{text(""), false, api.OK},
		{text("\x01"), true, api.OK},
		{text("\x00"), false, api.ErrForm},
		{text("\x02"), false, api.ErrForm},
		{text("\x80"), false, api.ErrForm},
		{text("\xff"), false, api.ErrForm},
		{text("1"), false, api.ErrForm},
		{text("\x00\x01"), false, api.ErrForm},
		{text("\x01\x00"), false, api.ErrForm},
		{text("\x01\x01"), false, api.ErrForm},
		{list(), false, api.ErrForm},
		{list(text("\x01")), false, api.ErrForm},
		{list(text("")), false, api.ErrForm},
		{listWithBytes("\x01"), false, api.ErrForm},
		{bytesWithItems("\x01", text("\x01")), false, api.ErrForm},
		{bytesWithItems("", text("")), false, api.ErrForm},
	} {
		if got, e := field.GetBool(x.it); got != x.want || e != x.e {
			t.Errorf("GetBool(%v) = %v, %v, want %v, %v", x.it, got, e, x.want, x.e)
		}
	}
}

func TestGetListAtTheEdges(t *testing.T) {
	three := list(text("a"), list(), text(""))
	for _, x := range []struct {
		it          api.Item
		least, most int
		want        []api.Item
		e           api.Errno
	}{
		{list(), 0, 0, nil, api.OK},
		{list(), 0, 5, nil, api.OK},
		{api.Item{List: true, Items: []api.Item{}}, 0, 0, nil, api.OK},
		{list(), 1, 5, nil, api.ErrShort},
		{list(text("")), 0, 0, nil, api.ErrLong},
		{list(text("")), 1, 1, []api.Item{text("")}, api.OK},
		{three, 0, 3, three.Items, api.OK},
		{three, 3, 3, three.Items, api.OK},
		{three, 3, 9, three.Items, api.OK},
		{three, 4, 9, nil, api.ErrShort},
		{three, 0, 2, nil, api.ErrLong},
		{many(8, text("b")), 9, 9, nil, api.ErrShort},
		{many(9, text("b")), 9, 9, many(9, text("b")).Items, api.OK},
		{many(10, text("b")), 9, 9, nil, api.ErrLong},
		{many(512, text("b")), 0, 512, many(512, text("b")).Items, api.OK},
		{many(513, text("b")), 0, 512, nil, api.ErrLong},
		{many(513, text("b")), 0, math.MaxInt, many(513, text("b")).Items, api.OK},
		// Lists in it, and what is no item, as they stand there.
		{list(list(text("a"), list(text("b"))), list()), 0, 9, []api.Item{list(text("a"), list(text("b"))), list()}, api.OK},
		{list(listWithBytes("a"), bytesWithItems("b", list())), 2, 2, []api.Item{listWithBytes("a"), bytesWithItems("b", list())}, api.OK},
		// A least that is more than the most.
		{three, 4, 2, nil, api.ErrShort},
		{three, 4, 3, nil, api.ErrShort},
		{three, 3, 2, nil, api.ErrLong},
		{list(), 1, 0, nil, api.ErrShort},
		{list(), math.MaxInt, math.MinInt, nil, api.ErrShort},
		// Numbers below 0.
		{list(), -1, 0, nil, api.OK},
		{three, -1, 3, three.Items, api.OK},
		{three, math.MinInt, 3, three.Items, api.OK},
		{list(), 0, -1, nil, api.ErrLong},
		{list(), -1, -1, nil, api.ErrLong},
		{three, math.MinInt, math.MinInt, nil, api.ErrLong},
		// What is no list first, whatever the numbers.
		{text(""), 0, 0, nil, api.ErrForm},
		{text(""), 1, 1, nil, api.ErrForm},
		{text("abc"), 0, 0, nil, api.ErrForm},
		{text("abc"), 1, 0, nil, api.ErrForm},
		{listWithBytes("a"), 0, 1, nil, api.ErrForm},
		{listWithBytes("a", text("b")), 2, 3, nil, api.ErrForm},
		{listWithBytes("a", text("b")), 0, 0, nil, api.ErrForm},
		{bytesWithItems("", text("b")), 1, 1, nil, api.ErrForm},
		{bytesWithItems("a", text("b")), 2, 0, nil, api.ErrForm},
	} {
		got, e := field.GetList(x.it, x.least, x.most)
		if !same(got, x.want) || e != x.e {
			t.Errorf("GetList(%v, %d, %d) = %d items, %v, want %d, %v", brief(x.it), x.least, x.most, len(got), e, len(x.want), x.e)
		}
	}
}

func TestGetTextsAtTheEdges(t *testing.T) {
	for _, x := range []struct {
		it                api.Item
		many, least, most int
		want              []string
		e                 api.Errno
	}{
		{list(), 0, 0, 0, nil, api.OK},
		{list(), 5, 32, 32, nil, api.OK},
		{list(text("")), 1, 0, 0, []string{""}, api.OK},
		{list(text("b"), text("\x00"), text("a")), 3, 1, 1, []string{"b", "\x00", "a"}, api.OK},
		{list(text("b"), text(""), text("abc")), 9, 0, 3, []string{"b", "", "abc"}, api.OK},
		{many(2, text(ab(32))), 3, 32, 32, []string{ab(32), ab(32)}, api.OK},
		{many(3, text(ab(32))), 3, 32, 32, []string{ab(32), ab(32), ab(32)}, api.OK},
		{many(4, text(ab(32))), 3, 32, 32, nil, api.ErrLong},
		{many(2, text(ab(31))), 3, 32, 32, nil, api.ErrShort},
		{many(2, text(ab(33))), 3, 32, 32, nil, api.ErrLong},
		{list(text(ab(4)), text(ab(6))), 2, 4, 6, []string{ab(4), ab(6)}, api.OK},
		{list(text(ab(4)), text(ab(3))), 2, 4, 6, nil, api.ErrShort},
		{list(text(ab(7)), text(ab(6))), 2, 4, 6, nil, api.ErrLong},
		// The first one of its items that is wrong is told.
		{list(text("a"), text(""), list(), text("abc")), 4, 1, 2, nil, api.ErrShort},
		{list(text("a"), list(), text(""), text("abc")), 4, 1, 2, nil, api.ErrForm},
		{list(text("a"), text("abc"), text(""), list()), 4, 1, 2, nil, api.ErrLong},
		{list(text("a"), list(text("a"))), 4, 1, 2, nil, api.ErrForm},
		{list(text("a"), listWithBytes("a")), 4, 1, 2, nil, api.ErrForm},
		{list(text("a"), bytesWithItems("a", text("a"))), 4, 1, 2, nil, api.ErrForm},
		{list(text("a"), text("b"), list()), 3, 1, 1, nil, api.ErrForm},
		// Of a least that is more than the most.
		{list(text("a")), 1, 2, 0, nil, api.ErrShort},
		{list(text("abc")), 1, 2, 0, nil, api.ErrLong},
		{list(), 1, 2, 0, nil, api.OK},
		// Numbers below 0.
		{list(), 0, -1, -1, nil, api.OK},
		{list(text("")), 1, -1, 0, []string{""}, api.OK},
		{list(text("")), 1, 0, -1, nil, api.ErrLong},
		{list(), -1, 0, 0, nil, api.ErrLong},
		{list(), math.MinInt, 0, 0, nil, api.ErrLong},
		// Too many first, whatever they are; and what is no list ahead of that.
		{list(text(""), list(), text("")), 2, 1, 1, nil, api.ErrLong},
		{list(list()), 0, 1, 1, nil, api.ErrLong},
		{list(text("")), -1, 1, 1, nil, api.ErrLong},
		{text(""), 0, 0, 0, nil, api.ErrForm},
		{text("abc"), -1, 4, 4, nil, api.ErrForm},
		{text("abc"), 4, 3, 3, nil, api.ErrForm},
		{listWithBytes("a", text("b")), 0, 2, 2, nil, api.ErrForm},
		{listWithBytes("a", text("b")), 1, 1, 1, nil, api.ErrForm},
		{bytesWithItems("", text("b")), 1, 1, 1, nil, api.ErrForm},
	} {
		got, e := field.GetTexts(x.it, x.many, x.least, x.most)
		if !slices.Equal(got, x.want) || e != x.e {
			t.Errorf("GetTexts(%v, %d, %d, %d) = %q, %v, want %q, %v", brief(x.it), x.many, x.least, x.most, got, e, x.want, x.e)
		}
	}
}

func TestGetAddrAtTheEdges(t *testing.T) {
	for _, x := range []struct {
		it   api.Item
		want string
		e    api.Errno
	}{
		{text(""), "", api.OK},
		{text("a"), "", api.ErrForm},
		{text("\x00"), "", api.ErrForm},
		{text(ab(19)), "", api.ErrForm},
		{text(ab(20)), ab(20), api.OK},
		{text(ab(21)), "", api.ErrForm},
		{text(strings.Repeat("\x00", 19)), "", api.ErrForm},
		{text(strings.Repeat("\x00", 20)), strings.Repeat("\x00", 20), api.OK},
		{text("\x00" + ab(19)), "\x00" + ab(19), api.OK},
		{text("\x00" + ab(20)), "", api.ErrForm},
		{text(ab(40)), "", api.ErrForm},
		{list(), "", api.ErrForm},
		{list(text(ab(20))), "", api.ErrForm},
		{many(20, text("a")), "", api.ErrForm},
		{listWithBytes(ab(20)), "", api.ErrForm},
		{bytesWithItems(ab(20), text("")), "", api.ErrForm},
		{bytesWithItems("", list()), "", api.ErrForm},
	} {
		if got, e := field.GetAddr(x.it); got != x.want || e != x.e {
			t.Errorf("GetAddr(%v) = %x, %v, want %x, %v", brief(x.it), got, e, x.want, x.e)
		}
	}
}

// All calls against the chapter's sentences, at items of all sorts.
func TestItemsAreRead(t *testing.T) {
	for _, it := range items() {
		wantNumber, e := numberOf(it, 8)
		if got, f := field.GetNumber(it); wantNumber.Cmp(new(big.Int).SetUint64(got)) != 0 || f != e {
			t.Errorf("GetNumber(%v) = %d, %v, want %v, %v", brief(it), got, f, wantNumber, e)
		}
		wantWord, e := numberOf(it, 32)
		if got, f := field.GetWord(it); wantWord.Cmp(bigOf(got)) != 0 || f != e {
			t.Errorf("GetWord(%v) = %v, %v, want %v, %v", brief(it), got, f, wantWord, e)
		}
		wantBool, e := boolOf(it)
		if got, f := field.GetBool(it); got != wantBool || f != e {
			t.Errorf("GetBool(%v) = %v, %v, want %v, %v", brief(it), got, f, wantBool, e)
		}
		wantAddr, e := addrOf(it)
		if got, f := field.GetAddr(it); got != wantAddr || f != e {
			t.Errorf("GetAddr(%v) = %x, %v, want %x, %v", brief(it), got, f, wantAddr, e)
		}
	}
}

func TestItemsAreReadWithinBounds(t *testing.T) {
	for _, it := range items() {
		for _, least := range bounds() {
			for _, most := range bounds() {
				wantText, e := textOf(it, least, most)
				if got, f := field.GetText(it, least, most); got != wantText || f != e {
					t.Errorf("GetText(%v, %d, %d) = %d bytes, %v, want %d, %v", brief(it), least, most, len(got), f, len(wantText), e)
				}
				wantList, e := listOf(it, least, most)
				if got, f := field.GetList(it, least, most); !same(got, wantList) || f != e {
					t.Errorf("GetList(%v, %d, %d) = %d items, %v, want %d, %v", brief(it), least, most, len(got), f, len(wantList), e)
				}
			}
		}
	}
}

func TestListsOfTextsAreRead(t *testing.T) {
	seen := map[api.Errno]int{}
	for _, it := range items() {
		for _, n := range []int{math.MinInt, -1, 0, 1, 2, 3, 4, 512, math.MaxInt} {
			for _, least := range []int{-1, 0, 1, 8, 20} {
				for _, most := range []int{-1, 0, 1, 20, 32, math.MaxInt} {
					want, e := textsOf(it, n, least, most)
					seen[e]++
					if got, f := field.GetTexts(it, n, least, most); !slices.Equal(got, want) || f != e {
						t.Errorf("GetTexts(%v, %d, %d, %d) = %q, %v, want %q, %v", brief(it), n, least, most, got, f, want, e)
					}
				}
			}
		}
	}
	for _, e := range []api.Errno{api.OK, api.ErrForm, api.ErrShort, api.ErrLong} {
		if seen[e] < 1000 {
			t.Errorf("only %d lists are told %v", seen[e], e)
		}
	}
}

func TestWhatIsWrittenIsRead(t *testing.T) {
	for _, n := range numbers() {
		if got, e := field.GetNumber(field.Number(n)); got != n || e != api.OK {
			t.Errorf("%d is read as %d, %v", n, got, e)
		}
	}
	for _, w := range wholes() {
		if got, e := field.GetWord(field.Word(w)); got != w || e != api.OK {
			t.Errorf("%v is read as %v, %v", w, got, e)
		}
	}
	for _, v := range []bool{false, true} {
		if got, e := field.GetBool(field.Bool(v)); got != v || e != api.OK {
			t.Errorf("%v is read as %v, %v", v, got, e)
		}
	}
	for _, s := range texts() {
		if got, e := field.GetText(field.Text(s), len(s), len(s)); got != s || e != api.OK {
			t.Errorf("%x is read as %x, %v", s, got, e)
		}
	}
	for _, s := range []string{"", ab(20), strings.Repeat("\x00", 20), "\x00" + ab(19)} {
		if got, e := field.GetAddr(field.Text(s)); got != s || e != api.OK {
			t.Errorf("the address %x is read as %x, %v", s, got, e)
		}
	}
	l := samples()
	for n := range 40 {
		own := l[n*7 : n*7+n]
		if got, e := field.GetList(field.List(own...), n, n); !same(got, own) || e != api.OK {
			t.Errorf("a list of %d is read as %d, %v", n, len(got), e)
		}
		own2 := texts()[n*7 : n*7+n]
		if got, e := field.GetTexts(field.Texts(own2), n, 0, 1000); !slices.Equal(got, own2) || e != api.OK {
			t.Errorf("%q is read as %q, %v", own2, got, e)
		}
	}
}

// What is read of an item is written as just that item: no other one is read.
func TestNothingElseIsRead(t *testing.T) {
	read := map[string]int{}
	hold := func(name string, e api.Errno, it, written api.Item) {
		if e != api.OK {
			return
		}
		read[name]++
		if !rlp.Same(it, written) {
			t.Errorf("%s: of %v is read what is written as %v", name, brief(it), brief(written))
		}
	}
	for _, it := range items() {
		n, e := field.GetNumber(it)
		hold("GetNumber", e, it, field.Number(n))
		w, e := field.GetWord(it)
		hold("GetWord", e, it, field.Word(w))
		s, e := field.GetText(it, 0, math.MaxInt)
		hold("GetText", e, it, field.Text(s))
		v, e := field.GetBool(it)
		hold("GetBool", e, it, field.Bool(v))
		l, e := field.GetList(it, 0, math.MaxInt)
		hold("GetList", e, it, field.List(l...))
		all, e := field.GetTexts(it, math.MaxInt, 0, math.MaxInt)
		hold("GetTexts", e, it, field.Texts(all))
		addr, e := field.GetAddr(it)
		hold("GetAddr", e, it, field.Text(addr))
	}
	for _, name := range []string{"GetNumber", "GetWord", "GetText", "GetBool", "GetList", "GetTexts", "GetAddr"} {
		if read[name] < 100 {
			t.Errorf("only %d items are read by %s", read[name], name)
		}
	}
}

// Of bytes of up to two, just those are a number's that are written of it; and of others none.
func TestEachNumberHasOneItem(t *testing.T) {
	numbers, words := 0, 0
	for b := range 256 {
		for c := range 257 {
			s := string([]byte{byte(b), byte(c)})
			if c == 256 {
				s = s[:1]
			}
			if _, e := field.GetNumber(text(s)); e == api.OK {
				numbers++
			}
			if _, e := field.GetWord(text(s)); e == api.OK {
				words++
			}
		}
	}
	if numbers != 65535 || words != 65535 {
		t.Errorf("%d are read as numbers, %d as words", numbers, words)
	}
}

// What is written goes through the bytes of package rlp, and is read behind them.
func TestFieldsGoThroughBytes(t *testing.T) {
	w := api.Word{4, 3, 2, 1}
	it := field.List(field.Number(300), field.Word(w), field.Text("dog"), field.Bool(true),
		field.List(), field.Texts([]string{"", "cat"}), field.Text(ab(20)))
	code, e := rlp.Encode(it)
	if e != api.OK {
		t.Fatal(e)
	}
	back, e := unrlp.Decode(code)
	if e != api.OK || !rlp.Same(back, it) {
		t.Fatal(back, e)
	}
	l, e := field.GetList(back, 7, 7)
	if e != api.OK {
		t.Fatal(e)
	}
	if got, e := field.GetNumber(l[0]); got != 300 || e != api.OK {
		t.Error(got, e)
	}
	if got, e := field.GetWord(l[1]); got != w || e != api.OK {
		t.Error(got, e)
	}
	if got, e := field.GetText(l[2], 3, 3); got != "dog" || e != api.OK {
		t.Error(got, e)
	}
	if got, e := field.GetBool(l[3]); !got || e != api.OK {
		t.Error(got, e)
	}
	if got, e := field.GetList(l[4], 0, 0); len(got) != 0 || e != api.OK {
		t.Error(got, e)
	}
	if got, e := field.GetTexts(l[5], 2, 0, 3); !slices.Equal(got, []string{"", "cat"}) || e != api.OK {
		t.Error(got, e)
	}
	if got, e := field.GetAddr(l[6]); got != ab(20) || e != api.OK {
		t.Error(got, e)
	}
}

// overwrite changes all items that are in one, whoever else has them.
func overwrite(l []api.Item) {
	for i := range l {
		overwrite(l[i].Items)
		l[i] = listWithBytes("changed")
	}
}

// An answer keeps what it was, whatever is done to the argument later, and the other way round.
func TestAnswersShareNothingWithArguments(t *testing.T) {
	for _, it := range items() {
		for _, make := range []func([]api.Item) []api.Item{
			func(l []api.Item) []api.Item { return field.List(l...).Items },
			func(l []api.Item) []api.Item {
				got, _ := field.GetList(list(l...), len(l), len(l))
				return got
			},
		} {
			l, want := []api.Item{copyOf(it), text("a")}, []api.Item{copyOf(it), text("a")}
			got := make(l)
			if !same(got, want) {
				t.Fatalf("%v is told as %v", brief(it), got)
			}
			overwrite(l)
			if !same(got, want) {
				t.Errorf("what is told of %v changes with the argument", brief(it))
			}
			l = []api.Item{copyOf(it), text("a")}
			overwrite(make(l))
			if !same(l, want) {
				t.Errorf("the argument %v changes with what was told of it", brief(it))
			}
		}
	}
}

// What stands in an answer more than once stands there in memory of its own each time.
func TestListsOfAnAnswerShareNothing(t *testing.T) {
	twice := list(text("a"), list(text("b")))
	for _, l := range [][]api.Item{
		field.List(twice, twice).Items,
		read(field.GetList(list(twice, twice), 2, 2)),
	} {
		overwrite(l[0].Items)
		if !rlp.Same(l[1], list(text("a"), list(text("b")))) {
			t.Errorf("two lists of an answer share memory: %v", l[1])
		}
		behind := append(l[0].Items, text("c"))
		if _ = append(l[0].Items[:1], text("d")); !rlp.Same(l[1], list(text("a"), list(text("b")))) {
			t.Errorf("two lists of an answer share memory behind one: %v", behind)
		}
	}
	in := []string{"a", "b"}
	it := field.Texts(in)
	if !slices.Equal(in, []string{"a", "b"}) {
		t.Errorf("Texts changes its argument to %q", in)
	}
	in[0] = "c"
	if !rlp.Same(it, list(text("a"), text("b"))) {
		t.Errorf("Texts keeps the row of texts that it was handed: %v", it)
	}
	got, _ := field.GetTexts(it, 2, 1, 1)
	got[0] = "d"
	if !rlp.Same(it, list(text("a"), text("b"))) {
		t.Errorf("GetTexts hands out the row of an item: %v", it)
	}
}

func read(l []api.Item, _ api.Errno) []api.Item { return l }

// standsIn tells whether a text stands in memory of another one.
func standsIn(s, all string) bool {
	own, first := uintptr(unsafe.Pointer(unsafe.StringData(s))), uintptr(unsafe.Pointer(unsafe.StringData(all)))
	return first <= own && own < first+uintptr(len(all))
}

func TestAnswersKeepNoTexts(t *testing.T) {
	whole := ab(60)
	s := whole[20:40]
	it := text(s)
	one, _ := field.GetText(it, 0, 99)
	addr, _ := field.GetAddr(it)
	all, _ := field.GetTexts(list(it), 1, 0, 99)
	l, _ := field.GetList(list(it, list(it)), 2, 2)
	for i, got := range []string{
		one, addr, all[0], l[0].Bytes, l[1].Items[0].Bytes, field.Text(s).Bytes,
		field.Texts([]string{s}).Items[0].Bytes, field.List(it).Items[0].Bytes, field.List(list(it)).Items[0].Items[0].Bytes,
	} {
		if got != s {
			t.Errorf("%d: %x is told as %x", i, s, got)
		}
		if standsIn(got, whole) {
			t.Errorf("%d: %x stands in the argument's memory", i, got)
		}
	}
}

// No call changes an argument, and each tells the same again.
func TestArgumentsStayAndAnswersToo(t *testing.T) {
	all := items()
	for i, it := range all {
		before := copyOf(it)
		for range 2 {
			n, e1 := field.GetNumber(it)
			w, e2 := field.GetWord(it)
			s, e3 := field.GetText(it, 1, 20)
			v, e4 := field.GetBool(it)
			l, e5 := field.GetList(it, 1, 3)
			texts, e6 := field.GetTexts(it, 3, 0, 20)
			addr, e7 := field.GetAddr(it)
			field.List(it, all[i/2])
			if !rlp.Same(it, before) {
				t.Fatalf("%v is changed to %v", brief(before), brief(it))
			}
			m, f1 := field.GetNumber(before)
			x, f2 := field.GetWord(before)
			r, f3 := field.GetText(before, 1, 20)
			u, f4 := field.GetBool(before)
			k, f5 := field.GetList(before, 1, 3)
			other, f6 := field.GetTexts(before, 3, 0, 20)
			to, f7 := field.GetAddr(before)
			if n != m || w != x || s != r || v != u || !same(l, k) || !slices.Equal(texts, other) || addr != to ||
				e1 != f1 || e2 != f2 || e3 != f3 || e4 != f4 || e5 != f5 || e6 != f6 || e7 != f7 {
				t.Errorf("%v is told otherwise the second time", brief(it))
			}
		}
	}
}

// nil or empty is never asked.
func TestListsWithoutItemsAreNilOrEmpty(t *testing.T) {
	for _, l := range [][]api.Item{nil, {}} {
		bytes, lists := api.Item{Bytes: "\x01", Items: l}, api.Item{List: true, Items: l}
		if n, e := field.GetNumber(bytes); n != 1 || e != api.OK {
			t.Error(n, e)
		}
		if s, e := field.GetText(bytes, 1, 1); s != "\x01" || e != api.OK {
			t.Error(s, e)
		}
		if v, e := field.GetBool(bytes); !v || e != api.OK {
			t.Error(v, e)
		}
		if got, e := field.GetList(lists, 0, 0); len(got) != 0 || e != api.OK {
			t.Error(got, e)
		}
		if got, e := field.GetTexts(lists, 0, 1, 1); len(got) != 0 || e != api.OK {
			t.Error(got, e)
		}
		if _, e := field.GetAddr(lists); e != api.ErrForm {
			t.Error(e)
		}
		if it := field.List(l...); !rlp.Same(it, list()) {
			t.Error(it)
		}
	}
}

// Whatever it is given, a call ends: also with as many levels as the document speaks of.
func TestAllEndsAtAllItems(t *testing.T) {
	const levels = 1<<16 - 1
	deep := within(levels, text("\x01"))
	it := field.List(deep)
	if rlp.Deep(it) != levels+1 || !rlp.Same(it.Items[0], deep) {
		t.Errorf("List is as deep as %d", rlp.Deep(it))
	}
	if l, e := field.GetList(it, 1, 1); len(l) != 1 || !rlp.Same(l[0], deep) || e != api.OK {
		t.Error(len(l), e)
	}
	if _, e := field.GetTexts(it, 1, 0, 9); e != api.ErrForm {
		t.Error(e)
	}
	for _, it := range []api.Item{deep, many(100000, text("")), listWithBytes(ab(1<<20), deep), bytesWithItems(ab(1<<20), deep)} {
		if n, e := field.GetNumber(it); n != 0 || e != api.ErrForm {
			t.Error(n, e)
		}
		if w, e := field.GetWord(it); w != (api.Word{}) || e != api.ErrForm {
			t.Error(w, e)
		}
		if s, e := field.GetText(it, math.MinInt, math.MaxInt); s != "" || e != api.ErrForm {
			t.Error(len(s), e)
		}
		if v, e := field.GetBool(it); v || e != api.ErrForm {
			t.Error(v, e)
		}
		if s, e := field.GetAddr(it); s != "" || e != api.ErrForm {
			t.Error(len(s), e)
		}
		if l, e := field.GetList(it, 0, 0); len(l) != 0 || e == api.OK {
			t.Error(len(l), e)
		}
		if l, e := field.GetTexts(it, 0, math.MinInt, math.MaxInt); len(l) != 0 || e == api.OK {
			t.Error(len(l), e)
		}
	}
}
