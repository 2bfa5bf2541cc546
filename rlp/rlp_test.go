package rlp_test

import (
	"fmt"
	"math/big"
	"math/rand"
	"reflect"
	"slices"
	"strings"
	"testing"

	"rescript/api"
	"rescript/rlp"
)

func text(s string) api.Item { return api.Item{Bytes: s} }

// long are bytes of so many, none of which could be one alone.
func long(n int) api.Item { return text(strings.Repeat("\xab", n)) }

func list(l ...api.Item) api.Item { return api.Item{List: true, Items: l} }

// many is a list of an item so many times.
func many(n int, it api.Item) api.Item { return list(slices.Repeat([]api.Item{it}, n)...) }

// within is an item that stands in so many lists.
func within(lists int, it api.Item) api.Item {
	for range lists {
		it = list(it)
	}
	return it
}

// Neither bytes nor lists.
func listWithBytes(l ...api.Item) api.Item { return api.Item{List: true, Bytes: "a", Items: l} }

func bytesWithItems(l ...api.Item) api.Item { return api.Item{Bytes: "a", Items: l} }

// headOf is a head of n by b, sentence by sentence of the chapter.
func headOf(n, b int) string {
	if n < 56 {
		return string([]byte{byte(b + n)})
	}
	length := big.NewInt(int64(n)).Bytes()
	return string([]byte{byte(b + 55 + len(length))}) + string(length)
}

// bytesOf are an item's bytes, sentence by sentence of the chapter.
func bytesOf(it api.Item) string {
	if !it.List {
		if len(it.Bytes) == 1 && it.Bytes[0] < 128 {
			return it.Bytes
		}
		return headOf(len(it.Bytes), 128) + it.Bytes
	}
	own := ""
	for _, in := range it.Items {
		own += bytesOf(in)
	}
	return headOf(len(own), 192) + own
}

func deepOf(it api.Item) int {
	deepest := 0
	for _, in := range it.Items {
		deepest = max(deepest, 1+deepOf(in))
	}
	if it.List {
		return max(1, deepest)
	}
	return 0
}

// errorsOf are all errors of an item and of what is in it, in the chapter's order.
func errorsOf(it api.Item, lists int) []api.Errno {
	var l []api.Errno
	if it.List && it.Bytes != "" || !it.List && len(it.Items) != 0 {
		l = append(l, api.ErrForm)
	}
	if it.List && lists >= 12 {
		l = append(l, api.ErrDeep)
	}
	if it.List && len(it.Items) > 512 {
		l = append(l, api.ErrLong)
	}
	for _, in := range it.Items {
		l = append(l, errorsOf(in, lists+1)...)
	}
	return l
}

// edges are well-formed items at the chapter's borders, no two of them alike.
func edges() []api.Item {
	l := []api.Item{list(), list(text("\x01"), list()), list(list()), list(list(), list()), list(text(""), text("")), list(text(""))}
	for b := range 256 {
		l = append(l, text(string([]byte{byte(b)})), list(text(string([]byte{byte(b)}))))
	}
	for _, n := range []int{0, 2, 54, 55, 56, 57, 255, 256, 257, 65530, 65531, 65532, 65533} {
		l = append(l, long(n))
	}
	for _, n := range []int{53, 54, 55, 56, 254, 255, 256, 510, 511, 512} {
		l = append(l, many(n, text("\x05")), many(n, text("\x06")))
	}
	for n := 2; n <= 11; n++ {
		l = append(l, within(n, list()), within(n, text("\x01")), within(n, many(512, text("\x07"))))
	}
	return append(l, within(12, text("\x01")), within(12, text("")), list(text("\x80"), text("\x81\x01")), many(512, long(125)))
}

// samples are items that look like chance, the same in each run, well-formed and below all limits.
func samples() []api.Item {
	r := rand.New(rand.NewSource(1))
	var l []api.Item
	for range 400 {
		l = append(l, sample(r, 5, ""))
	}
	return l
}

// sample is an item at most so deep; with wrong it may have errors, one of those that wrong names.
func sample(r *rand.Rand, deep int, wrong string) api.Item {
	var it api.Item
	if deep > 0 && r.Intn(3) > 0 {
		it.List = true
		for range r.Intn(5) {
			it.Items = append(it.Items, sample(r, deep-1, wrong))
		}
		if strings.Contains(wrong, "long") && r.Intn(8) == 0 {
			it.Items = slices.Concat(it.Items, many(513, text("")).Items)
		}
	} else {
		b := make([]byte, r.Intn(4)*r.Intn(4)*r.Intn(9))
		r.Read(b)
		it.Bytes = string(b)
	}
	if strings.Contains(wrong, "form") && r.Intn(8) == 0 {
		if it.List {
			it.Bytes = "\x00"
		} else {
			it.Items = []api.Item{{}}
		}
	}
	if strings.Contains(wrong, "deep") && r.Intn(8) == 0 {
		it = within(9, it)
	}
	return it
}

// misshapen are items that nothing but the type holds, with errors and without.
func misshapen() []api.Item {
	r := rand.New(rand.NewSource(2))
	var l []api.Item
	for range 300 {
		for _, wrong := range []string{"form", "long", "deep", "form long", "form deep", "long deep", "form long deep"} {
			l = append(l, sample(r, 5, wrong))
		}
	}
	return l
}

func all() []api.Item { return slices.Concat(edges(), samples(), misshapen()) }

// copyOf shares no list with an item.
func copyOf(it api.Item) api.Item {
	l := make([]api.Item, 0, len(it.Items)+1)
	for _, in := range it.Items {
		l = append(l, copyOf(in))
	}
	it.Items = l
	return it
}

// brief keeps what a failed test tells short.
func brief(s string) string { return s[:min(len(s), 40)] }

func TestEncodeAtTheEdges(t *testing.T) {
	ab := func(n int) string { return strings.Repeat("\xab", n) }
	five := func(n int) string { return strings.Repeat("\x05", n) }
	for _, x := range []struct {
		it   api.Item
		want string
	}{
		{list(text("\x01"), list()), "\xc2\x01\xc0"},
		{text(""), "\x80"},
		{list(), "\xc0"},
		{text("\x00"), "\x00"},
		{text("\x01"), "\x01"},
		{text("\x7f"), "\x7f"},
		{text("\x80"), "\x81\x80"},
		{text("\xff"), "\x81\xff"},
		{text("\x00\x00"), "\x82\x00\x00"},
		{text("dog"), "\x83dog"},
		{long(55), "\xb7" + ab(55)},
		{long(56), "\xb8\x38" + ab(56)},
		{long(255), "\xb8\xff" + ab(255)},
		{long(256), "\xb9\x01\x00" + ab(256)},
		{long(65533), "\xb9\xff\xfd" + ab(65533)},
		{list(text("")), "\xc1\x80"},
		{list(text("cat"), text("dog")), "\xc8\x83cat\x83dog"},
		{list(list(), list(list()), list(list(), list(list()))), "\xc7\xc0\xc1\xc0\xc3\xc0\xc1\xc0"},
		{many(55, text("\x05")), "\xf7" + five(55)},
		{many(56, text("\x05")), "\xf8\x38" + five(56)},
		{many(255, text("\x05")), "\xf8\xff" + five(255)},
		{many(256, text("\x05")), "\xf9\x01\x00" + five(256)},
		{many(512, text("\x05")), "\xf9\x02\x00" + five(512)},
		// Own bytes of 55 and 56 that heads within are a part of.
		{list(long(54)), "\xf7\xb6" + ab(54)},
		{list(long(55)), "\xf8\x38\xb7" + ab(55)},
		{list(long(53), text("\x80")), "\xf8\x38\xb5" + ab(53) + "\x81\x80"},
		{list(many(54, text("\x05"))), "\xf7\xf6" + five(54)},
		{list(many(55, text("\x05"))), "\xf8\x38\xf7" + five(55)},
		{within(11, list()), "\xcb\xca\xc9\xc8\xc7\xc6\xc5\xc4\xc3\xc2\xc1\xc0"},
		{within(12, text("\x01")), "\xcc\xcb\xca\xc9\xc8\xc7\xc6\xc5\xc4\xc3\xc2\xc1\x01"},
	} {
		if got, e := rlp.Encode(x.it); got != x.want || e != api.OK {
			t.Errorf("Encode = %x (%d bytes), %v, want %x (%d bytes)", brief(got), len(got), e, brief(x.want), len(x.want))
		}
		if got := rlp.Size(x.it); got != len(x.want) {
			t.Errorf("Size = %d, want %d", got, len(x.want))
		}
	}
}

func TestEncode(t *testing.T) {
	for i, it := range append(edges(), samples()...) {
		want := bytesOf(it)
		if got, e := rlp.Encode(it); got != want || e != api.OK {
			t.Errorf("%d: Encode = %x, %v, want %x", i, brief(got), e, brief(want))
		}
	}
}

func TestEncodeTellsChecksErrorAlone(t *testing.T) {
	for i, it := range append(all(), long(65534), long(65536), many(513, text("")), within(13, text("")), listWithBytes(), bytesWithItems(text(""))) {
		want := rlp.Check(it)
		got, e := rlp.Encode(it)
		if e != want {
			t.Errorf("%d: Encode tells %v, Check %v", i, e, want)
		}
		if e != api.OK && got != "" {
			t.Errorf("%d: Encode = %x beside %v", i, brief(got), e)
		}
	}
}

func TestCheckAtTheEdges(t *testing.T) {
	for i, x := range []struct {
		it api.Item
		e  api.Errno
	}{
		{api.Item{}, api.OK},
		{api.Item{List: true}, api.OK},
		{api.Item{Items: []api.Item{}}, api.OK},
		{api.Item{List: true, Items: []api.Item{}}, api.OK},
		{list(text("\x01"), list()), api.OK},
		// Neither bytes nor a list.
		{listWithBytes(), api.ErrForm},
		{listWithBytes(text("")), api.ErrForm},
		{api.Item{List: true, Bytes: "\x00"}, api.ErrForm},
		{bytesWithItems(text("")), api.ErrForm},
		{api.Item{Items: []api.Item{{}}}, api.ErrForm},
		{list(listWithBytes()), api.ErrForm},
		{list(bytesWithItems(list())), api.ErrForm},
		{list(text("a"), list(), list(text("b"), listWithBytes())), api.ErrForm},
		{within(12, bytesWithItems(text(""))), api.ErrForm},
		{within(11, listWithBytes()), api.ErrForm},
		// Lists in lists.
		{within(11, list()), api.OK},
		{within(12, list()), api.ErrDeep},
		{within(13, list()), api.ErrDeep},
		{within(12, text("a")), api.OK},
		{within(13, text("a")), api.ErrDeep},
		{list(list(), within(10, list()), text("a")), api.OK},
		{list(list(), within(11, list()), text("a")), api.ErrDeep},
		{within(11, many(512, text("a"))), api.OK},
		{within(11, list(text("a"), list())), api.ErrDeep},
		// Lists of many items.
		{many(512, text("a")), api.OK},
		{many(513, text("a")), api.ErrLong},
		{many(512, list()), api.OK},
		{many(513, list()), api.ErrLong},
		{many(600, text("")), api.ErrLong},
		{list(text("a"), many(512, text("a"))), api.OK},
		{list(text("a"), many(513, text("a"))), api.ErrLong},
		{within(11, many(513, text("a"))), api.ErrLong},
		{many(100, many(512, text("a"))), api.OK},
		// All bytes together.
		{long(65532), api.OK},
		{long(65533), api.OK},
		{long(65534), api.ErrLong},
		{long(65535), api.ErrLong},
		{long(65536), api.ErrLong},
		{long(70000), api.ErrLong},
		{list(long(65530)), api.OK},
		{list(long(65531)), api.ErrLong},
		{list(long(65529), text("a")), api.OK},
		{list(long(65529), text("ab")), api.ErrLong},
		{list(long(32763), long(32764)), api.OK},
		{list(long(32764), long(32764)), api.ErrLong},
		{many(512, long(125)), api.OK},
		{many(512, long(126)), api.ErrLong},
		{list(long(65534)), api.ErrLong},
	} {
		if e := rlp.Check(x.it); e != x.e {
			t.Errorf("%d: Check = %v, want %v", i, e, x.e)
		}
	}
}

func TestItemOfJustTheMost(t *testing.T) {
	for i, it := range []api.Item{long(65533), list(long(65530)), list(long(65529), text("a")), list(long(32763), long(32764)), list(list(long(65527)))} {
		got, e := rlp.Encode(it)
		if e != api.OK || len(got) != 65536 || got != bytesOf(it) {
			t.Errorf("%d: Encode has %d bytes, %v", i, len(got), e)
		}
	}
}

func TestCheckKeepsTheOrder(t *testing.T) {
	form, deep, wide := listWithBytes(), within(12, list()), many(513, text(""))
	for i, x := range []struct {
		it api.Item
		e  api.Errno
	}{
		// Of one item.
		{within(12, listWithBytes(slices.Repeat([]api.Item{{}}, 513)...)), api.ErrForm},
		{within(12, listWithBytes()), api.ErrForm},
		{listWithBytes(slices.Repeat([]api.Item{{}}, 513)...), api.ErrForm},
		{bytesWithItems(slices.Repeat([]api.Item{{}}, 513)...), api.ErrForm},
		{within(12, many(513, text(""))), api.ErrDeep},
		// The item itself, and then what is in it.
		{many(513, form), api.ErrLong},
		{many(513, deep), api.ErrLong},
		{listWithBytes(wide), api.ErrForm},
		{listWithBytes(deep), api.ErrForm},
		{bytesWithItems(wide), api.ErrForm},
		{within(12, list(form)), api.ErrDeep},
		{within(12, list(wide)), api.ErrDeep},
		// In order, each with all that is in it.
		{list(form, deep, wide), api.ErrForm},
		{list(deep, wide, form), api.ErrDeep},
		{list(wide, form, deep), api.ErrLong},
		{list(list(list(wide)), form), api.ErrLong},
		{list(list(list(form)), wide), api.ErrForm},
		{list(list(text("a"), deep), form), api.ErrDeep},
		{list(list(text("a"), form), within(11, list())), api.ErrForm},
		{list(text("a"), list(list(), wide), form, deep), api.ErrLong},
		// And then all bytes together.
		{list(long(70000), form), api.ErrForm},
		{list(long(70000), deep), api.ErrDeep},
		{list(form, long(70000)), api.ErrForm},
		{list(deep, long(70000)), api.ErrDeep},
		{api.Item{List: true, Bytes: long(70000).Bytes}, api.ErrForm},
		{api.Item{Bytes: long(70000).Bytes, Items: []api.Item{{}}}, api.ErrForm},
		{within(13, long(70000)), api.ErrDeep},
	} {
		if e := rlp.Check(x.it); e != x.e {
			t.Errorf("%d: Check = %v, want %v", i, e, x.e)
		}
		if got, e := rlp.Encode(x.it); got != "" || e != x.e {
			t.Errorf("%d: Encode = %x, %v, want none, %v", i, brief(got), e, x.e)
		}
	}
}

func TestCheck(t *testing.T) {
	seen := map[api.Errno]int{}
	for i, it := range all() {
		want := api.OK
		if l := errorsOf(it, 0); len(l) > 0 {
			want = l[0]
		} else if len(bytesOf(it)) > 65536 {
			want = api.ErrLong
		}
		if got := rlp.Check(it); got != want {
			t.Errorf("%d: Check = %v, want %v", i, got, want)
		}
		seen[want]++
	}
	for _, e := range []api.Errno{api.OK, api.ErrForm, api.ErrDeep, api.ErrLong} {
		if seen[e] < 100 {
			t.Errorf("only %d items are told %v", seen[e], e)
		}
	}
}

func TestDeep(t *testing.T) {
	for i, x := range []struct {
		it   api.Item
		want int
	}{
		{text(""), 0},
		{text("abc"), 0},
		{long(70000), 0},
		{list(), 1},
		{api.Item{List: true, Items: []api.Item{}}, 1},
		{list(text("")), 1},
		{list(text("a"), list()), 2},
		{list(list(), list(list()), text("a")), 3},
		{list(list(list(list())), list(), list(list())), 4},
		{many(600, text("a")), 1},
		{within(11, list()), 12},
		{within(12, text("a")), 12},
		{within(12, list()), 13},
		{within(1000, list()), 1001},
		// By List alone.
		{listWithBytes(), 1},
		{listWithBytes(list()), 2},
		{bytesWithItems(text("")), 0},
		{bytesWithItems(within(5, list())), 0},
		{list(bytesWithItems(list())), 1},
		{list(listWithBytes(text("")), bytesWithItems(list(list()))), 2},
	} {
		if got := rlp.Deep(x.it); got != x.want {
			t.Errorf("%d: Deep = %d, want %d", i, got, x.want)
		}
	}
	for i, it := range append(edges(), samples()...) {
		if got, want := rlp.Deep(it), deepOf(it); got != want {
			t.Errorf("%d: Deep = %d, want %d", i, got, want)
		}
	}
}

func TestSize(t *testing.T) {
	for i, x := range []struct {
		it   api.Item
		want int
	}{
		{text(""), 1},
		{text("\x00"), 1},
		{text("\x7f"), 1},
		{text("\x80"), 2},
		{text("\xff"), 2},
		{long(55), 56},
		{long(56), 58},
		{long(255), 257},
		{long(256), 259},
		{long(65533), 65536},
		{long(65534), 65537},
		{long(65535), 65538},
		{long(65536), 65540},
		{long(1<<24 - 1), 1<<24 + 3},
		{long(1 << 24), 1<<24 + 5},
		{list(), 1},
		{list(text("\x01"), list()), 3},
		{many(55, text("\x05")), 56},
		{many(56, text("\x05")), 58},
		{many(513, text("\x05")), 516},
		{many(1<<16-1, text("\x05")), 1<<16 + 2},
		{many(1<<16, text("\x05")), 1<<16 + 4},
		{within(12, list()), 13},
		{within(55, list()), 56},
		{within(56, list()), 58},
		{within(57, list()), 60},
		// By List alone.
		{listWithBytes(), 1},
		{api.Item{List: true, Bytes: long(100).Bytes}, 1},
		{listWithBytes(text("\x80")), 3},
		{bytesWithItems(long(100)), 1},
		{api.Item{Items: []api.Item{long(100)}}, 1},
		{list(bytesWithItems(long(100)), listWithBytes(text("bc"))), 6},
	} {
		if got := rlp.Size(x.it); got != x.want {
			t.Errorf("%d: Size = %d, want %d", i, got, x.want)
		}
	}
	for i, it := range append(all(), within(300, text("\x80")), many(600, many(600, text("ab")))) {
		if got, want := rlp.Size(it), len(bytesOf(byList(it))); got != want {
			t.Errorf("%d: Size = %d, want %d", i, got, want)
		}
	}
}

// byList is what an item is by List alone.
func byList(it api.Item) api.Item {
	if !it.List {
		return text(it.Bytes)
	}
	out := list()
	for _, in := range it.Items {
		out.Items = append(out.Items, byList(in))
	}
	return out
}

func TestSame(t *testing.T) {
	for i, x := range []struct {
		a, b api.Item
		want bool
	}{
		{api.Item{}, api.Item{}, true},
		{text("a"), text("a"), true},
		{text("a"), text("b"), false},
		{text("a"), text("aa"), false},
		{text(""), text("\x00"), false},
		{text(""), list(), false},
		{list(), list(), true},
		{list(text("a")), list(text("a")), true},
		{list(text("a")), list(text("b")), false},
		{list(text("a")), list(), false},
		{list(text("a")), list(text("a"), text("a")), false},
		{list(text("a"), text("b")), list(text("b"), text("a")), false},
		{list(text("a"), text("b")), list(text("a"), text("c")), false},
		{list(text("a"), list(text("b"))), list(text("a"), list(text("b"))), true},
		{list(text("a"), list(text("b"))), list(text("a"), list(text("c"))), false},
		{list(text("a"), list(text("b"))), list(text("a"), text("b")), false},
		{list(list(), text("")), list(text(""), list()), false},
		{list(list(text("a")), text("b")), list(list(text("a"), text("b"))), false},
		{within(11, list()), within(11, list()), true},
		{within(11, list()), within(12, list()), false},
		{within(11, list()), within(11, text("")), false},
		{many(512, text("a")), many(512, text("a")), true},
		{many(512, text("a")), many(513, text("a")), false},
		// Whatever they are.
		{within(20, text("a")), within(20, text("a")), true},
		{within(20, text("a")), within(20, text("b")), false},
		{long(70000), long(70000), true},
		{long(70000), long(70001), false},
		{listWithBytes(), listWithBytes(), true},
		{listWithBytes(), list(), false},
		{listWithBytes(), text("a"), false},
		{bytesWithItems(list()), bytesWithItems(list()), true},
		{bytesWithItems(list()), bytesWithItems(text("")), false},
		{bytesWithItems(list()), text("a"), false},
		{bytesWithItems(list()), listWithBytes(list()), false},
		{list(bytesWithItems(list())), list(text("a")), false},
		// Lists without items are nil or empty.
		{api.Item{Items: []api.Item{}}, api.Item{}, true},
		{api.Item{List: true, Items: []api.Item{}}, api.Item{List: true}, true},
		{list(api.Item{List: true, Items: []api.Item{}}), list(api.Item{List: true}), true},
	} {
		if got := rlp.Same(x.a, x.b); got != x.want {
			t.Errorf("%d: Same = %v, want %v", i, got, x.want)
		}
		if got := rlp.Same(x.b, x.a); got != x.want {
			t.Errorf("%d: Same the other way round = %v, want %v", i, got, x.want)
		}
	}
}

func TestSameTellsItemsApart(t *testing.T) {
	var copies []api.Item
	for _, it := range edges() {
		copies = append(copies, copyOf(it))
	}
	for i, a := range edges() {
		for j, b := range copies {
			if got := rlp.Same(a, b); got != (i == j) {
				t.Errorf("Same of %d and %d = %v", i, j, got)
			}
		}
	}
	for i, it := range all() {
		if !rlp.Same(it, copyOf(it)) {
			t.Errorf("%d: Same of an item and its copy is false", i)
		}
	}
}

func TestListsWithoutItemsAreNilOrEmpty(t *testing.T) {
	for i, it := range all() {
		empty := copyOf(it) // whose lists are empty where they were nil
		s, e := rlp.Encode(it)
		if got, f := rlp.Encode(empty); got != s || f != e {
			t.Errorf("%d: Encode hangs on nil", i)
		}
		if rlp.Check(empty) != rlp.Check(it) || rlp.Deep(empty) != rlp.Deep(it) || rlp.Size(empty) != rlp.Size(it) {
			t.Errorf("%d: Check, Deep or Size hangs on nil", i)
		}
	}
}

// small are all items of at most so many bytes of their own, whose bytes are a few.
func small(most int) []api.Item {
	var l []api.Item
	for n := range most + 1 {
		for _, s := range words(n) {
			l = append(l, text(s))
		}
	}
	return append(l, lists(most)...)
}

// words are all texts of n bytes that are 0, 128, 129 and 193.
func words(n int) []string {
	l := []string{""}
	for range n {
		var longer []string
		for _, s := range l {
			longer = append(longer, s+"\x00", s+"\x80", s+"\x81", s+"\xc1")
		}
		l = longer
	}
	return l
}

// lists are all lists whose own bytes are at most so many.
func lists(most int) []api.Item {
	l := []api.Item{list()}
	if most == 0 {
		return l
	}
	for _, first := range small(most - 1) {
		size := len(bytesOf(first))
		if size > most {
			continue
		}
		for _, rest := range lists(most - size) {
			l = append(l, list(append([]api.Item{first}, rest.Items...)...))
		}
	}
	return l
}

func TestNoItemsBytesBeginAnothers(t *testing.T) {
	var all []string
	seen := map[string]bool{}
	for _, it := range slices.Concat(small(5), edges(), samples()) {
		if told := fmt.Sprintf("%#v", it); !seen[told] {
			seen[told] = true
			s, e := rlp.Encode(it)
			if e != api.OK {
				t.Errorf("Encode = %v", e)
			}
			all = append(all, s)
		}
	}
	if len(all) < 4000 {
		t.Fatalf("only %d items", len(all))
	}
	// Whatever begins with a text stands right behind it, or behind others that do.
	slices.Sort(all)
	for i := 1; i < len(all); i++ {
		if strings.HasPrefix(all[i], all[i-1]) {
			t.Errorf("%x begins %x", brief(all[i-1]), brief(all[i]))
		}
	}
}

// Were two lengths told by one head, bytes could be read as more, or fewer.
func TestEachLengthHasItsHead(t *testing.T) {
	seen := map[string]int{}
	for n := 0; n < 66000; n++ {
		if n == 1000 {
			n = 65000 // no head's length changes between
		}
		whole, e := rlp.Encode(long(n))
		if n > 65533 {
			if whole != "" || e != api.ErrLong {
				t.Errorf("Encode of %d bytes has %d, %v", n, len(whole), e)
			}
			continue
		}
		own := whole[:len(whole)-n]
		if other, ok := seen[own]; ok || own != headOf(n, 128) {
			t.Errorf("the head of %d bytes is %x (seen of %d)", n, own, other)
		}
		seen[own] = n
	}
}

func TestArgumentsStayAndAnswersToo(t *testing.T) {
	for i, it := range all() {
		before := copyOf(it)
		s, e := rlp.Encode(it)
		check, deep, size := rlp.Check(it), rlp.Deep(it), rlp.Size(it)
		if again, f := rlp.Encode(it); again != s || f != e {
			t.Errorf("%d: Encode tells something else the second time", i)
		}
		if rlp.Check(it) != check || rlp.Deep(it) != deep || rlp.Size(it) != size {
			t.Errorf("%d: Check, Deep or Size tells something else the second time", i)
		}
		if !reflect.DeepEqual(copyOf(it), before) {
			t.Errorf("%d: an argument is changed", i)
		}
	}
}

// The document promises all of 2^16 levels, and items far beyond all limits.
func TestAllEndsAtAllItems(t *testing.T) {
	const levels = 1 << 16
	tower := within(levels, text("a"))
	if e := rlp.Check(tower); e != api.ErrDeep {
		t.Errorf("Check = %v", e)
	}
	if s, e := rlp.Encode(tower); s != "" || e != api.ErrDeep {
		t.Errorf("Encode = %x, %v", brief(s), e)
	}
	if n := rlp.Deep(tower); n != levels {
		t.Errorf("Deep = %d", n)
	}
	size := 1
	for range levels {
		size += len(headOf(size, 192))
	}
	if n := rlp.Size(tower); n != size {
		t.Errorf("Size = %d, want %d", n, size)
	}
	if !rlp.Same(tower, within(levels, text("a"))) || rlp.Same(tower, within(levels, text("b"))) || rlp.Same(tower, within(levels-1, text("a"))) {
		t.Error("Same does not look down to the last level")
	}
	wide := many(1<<20, list(text("a"), text("\xff")))
	if e := rlp.Check(wide); e != api.ErrLong {
		t.Errorf("Check = %v", e)
	}
	if deep, n := rlp.Deep(wide), rlp.Size(wide); deep != 2 || n != 4<<20+4 {
		t.Errorf("Deep = %d, Size = %d", deep, n)
	}
}
