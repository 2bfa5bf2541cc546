package receipt_test

import (
	"math/rand"
	"slices"
	"strconv"
	"strings"
	"testing"

	"rescript/api"
	"rescript/receipt"
	"rescript/unrlp"
)

// fault is an item that is wrong at a part's place, and what is told of it.
type fault struct {
	name string
	it   api.Item
	e    api.Errno
}

// lengths are bytes of these lengths, and lists, all of no form.
func lengths(n ...int) []fault {
	l := []fault{{"a list", list(), api.ErrForm}, {"a list of one", list(text(ab(20))), api.ErrForm}}
	for _, n := range n {
		l = append(l, fault{strconv.Itoa(n) + " bytes", text(ab(n)), api.ErrForm})
	}
	return l
}

func statusFaults() []fault {
	return append(lengths(1, 2, 20),
		fault{"a zero", text("\x00"), api.ErrForm},
		fault{"a two", text("\x02"), api.ErrForm},
		fault{"255", text("\xff"), api.ErrForm},
		fault{"a yes with a zero ahead", text("\x00\x01"), api.ErrForm},
		fault{"a list of a yes", list(text("\x01")), api.ErrForm})
}

func numberFaults() []fault {
	return []fault{
		{"a list", list(), api.ErrForm},
		{"a list of a number", list(text("\x01")), api.ErrForm},
		{"a zero", text("\x00"), api.ErrSpare},
		{"a zero ahead", text("\x00\x01"), api.ErrSpare},
		{"8 bytes, a zero ahead", text("\x00" + ab(7)), api.ErrSpare},
		{"9 bytes", text(ab(9)), api.ErrLong},
		{"9 bytes, a zero ahead", text("\x00" + ab(8)), api.ErrLong},
	}
}

// versionFaults are those of a number, and numbers that are not 1.
func versionFaults() []fault {
	return append(numberFaults(),
		fault{"a version 0", text(""), api.ErrForm},
		fault{"a version 2", text("\x02"), api.ErrForm},
		fault{"a version 255", text("\xff"), api.ErrForm},
		fault{"a version 256", text("\x01\x00"), api.ErrForm},
		fault{"a version 2^32 and 1", text("\x01\x00\x00\x00\x01"), api.ErrForm},
		fault{"the greatest version", text("\xff\xff\xff\xff\xff\xff\xff\xff"), api.ErrForm})
}

func topicsFaults() []fault {
	topic := text(ab(32))
	l := []fault{
		{"bytes", text(""), api.ErrForm},
		{"a topic", topic, api.ErrForm},
		{"5", many(5, topic), api.ErrLong},
		{"5 that are none", many(5, list()), api.ErrLong},
		{"6", many(6, topic), api.ErrLong},
		{"a list of a topic for one", list(list(topic)), api.ErrForm},
		{"a list for the fourth one", list(topic, topic, topic, list()), api.ErrForm},
	}
	for _, x := range lengths(0, 1, 20, 31, 33, 64) {
		l = append(l, fault{"for one " + x.name, list(topic, x.it), x.e}, fault{"for the first one " + x.name, list(x.it, list()), x.e})
	}
	return l
}

func dataFaults() []fault {
	return []fault{
		{"a list", list(), api.ErrForm},
		{"a list of bytes", list(text(ab(9))), api.ErrForm},
		{"4097 bytes", text(ab(4097)), api.ErrLong},
		{"30000 bytes", text(ab(30000)), api.ErrLong},
	}
}

// logParts are those of a log that is one.
func logParts() []api.Item { return []api.Item{text(ab(20)), many(2, text(ab(32))), text("\x05")} }

func logsFaults() []fault {
	good := list(logParts()...)
	l := []fault{
		{"bytes", text(""), api.ErrForm},
		{"a byte", text("\x01"), api.ErrForm},
		{"bytes of a length", text(ab(20)), api.ErrForm},
		{"17", many(17, good), api.ErrLong},
		{"17 that are none", many(17, text("")), api.ErrLong},
		{"18", many(18, good), api.ErrLong},
		{"bytes for one", list(text("")), api.ErrForm},
		{"bytes for the second one", list(good, text(ab(3))), api.ErrForm},
		{"a log for the list of them", good, api.ErrForm},
		{"one of 2 parts that are none", list(many(2, text(""))), api.ErrShort},
		{"one of 4 parts that are none", list(many(4, text(""))), api.ErrLong},
		{"one of 40 parts", list(many(40, text(ab(20)))), api.ErrLong},
		{"one of 2 parts ahead of one of 4", list(many(2, list()), many(4, list())), api.ErrShort},
		{"one of 4 parts ahead of one of 2", list(many(4, list()), many(2, list())), api.ErrLong},
		{"one of 2 parts behind 15", list(append(slices.Repeat([]api.Item{good}, 15), many(2, text("")))...), api.ErrShort},
		{"one of 4 parts behind 15", list(append(slices.Repeat([]api.Item{good}, 15), many(4, text("")))...), api.ErrLong},
	}
	for n := range 3 {
		l = append(l, fault{"one of " + strconv.Itoa(n) + " parts", list(good, list(logParts()[:n]...)), api.ErrShort})
		l = append(l, fault{"one of 3 parts and " + strconv.Itoa(n+1), list(good, list(append(logParts(), logParts()[:n+1]...)...)), api.ErrLong})
	}
	faults := [][]fault{lengths(0, 1, 19, 21, 32), topicsFaults(), dataFaults()}
	for i, own := range faults {
		for _, x := range own {
			place := "for part " + strconv.Itoa(i) + " " + x.name
			one := logParts()
			one[i] = x.it
			l = append(l, fault{place, list(good, list(one...)), x.e})
			// Of two parts the first one is told, and all of one ahead of the next.
			for j := i + 1; j < len(faults); j++ {
				for _, y := range sorts(faults[j]) {
					both := slices.Clone(one)
					both[j] = y.it
					l = append(l, fault{place + " ahead of " + strconv.Itoa(j), list(list(both...)), x.e})
				}
			}
			for _, next := range []api.Item{text(""), many(2, list()), many(4, list())} {
				l = append(l, fault{place + " ahead of the next", list(list(one...), next), x.e})
			}
		}
	}
	return l
}

// partFaults are the faults that each part may have, in order.
func partFaults() [][]fault {
	return [][]fault{statusFaults(), numberFaults(), logsFaults(), numberFaults(), versionFaults()}
}

// sorts are one fault of each error that there is among them.
func sorts(l []fault) []fault {
	var own []fault
	for _, x := range l {
		if !slices.ContainsFunc(own, func(y fault) bool { return y.e == x.e }) {
			own = append(own, x)
		}
	}
	return own
}

// Each part of each kind and form, with each fault alone; and of two that are wrong the first one.
func TestDecodeTellsTheFirstFault(t *testing.T) {
	faults := partFaults()
	for _, own := range formed() {
		parts := partsOf(own)
		for i := range parts {
			for _, x := range faults[i] {
				l := slices.Clone(parts)
				l[i] = x.it
				if got, e := holdDecode(t, wireOf(own.Kind, l...)); e != x.e || !same(got, api.Receipt{}) {
					t.Errorf("%v, for part %d %s: %v, %v, want %v", own, i, x.name, brief(got), e, x.e)
				}
				for j := i + 1; j < len(parts); j++ {
					for _, y := range sorts(faults[j]) {
						both := slices.Clone(l)
						both[j] = y.it
						if _, e := receipt.Decode(wireOf(own.Kind, both...)); e != x.e {
							t.Errorf("%v, for part %d %s, for part %d %s: %v, want %v", own, i, x.name, j, y.name, e, x.e)
						}
					}
				}
			}
		}
	}
}

// How many parts there are is told ahead of all that is wrong with them.
func TestHowManyParts(t *testing.T) {
	five := []api.Item{text("\x01"), text("\x05"), list(), text("\x06"), text("\x01")}
	for _, kind := range kindsAre() {
		most := 3
		if kind == api.TxDeposit {
			most = 5
		}
		for n := range 12 {
			want := api.OK
			switch {
			case n < 3:
				want = api.ErrShort
			case n > most:
				want = api.ErrLong
			}
			l := slices.Concat(five, five, five)[:n]
			got, e := holdDecode(t, wireOf(kind, l...))
			if e != want {
				t.Errorf("kind %d, %d parts: %v, want %v", kind, n, e, want)
			}
			if e == api.OK && receipt.Form(got) != n-3 {
				t.Errorf("kind %d, %d parts: form %d", kind, n, receipt.Form(got))
			}
			if want == api.OK {
				continue
			}
			for _, it := range []api.Item{text("\x00"), text(ab(9)), list(), list(text(""))} {
				if _, e := holdDecode(t, wireOf(kind, slices.Repeat([]api.Item{it}, n)...)); e != want {
					t.Errorf("kind %d, %d parts that are none: %v, want %v", kind, n, e, want)
				}
			}
		}
		for _, n := range []int{100, 512} {
			if _, e := holdDecode(t, wireOf(kind, slices.Repeat([]api.Item{text("\x01")}, n)...)); e != api.ErrLong {
				t.Errorf("kind %d, %d parts: %v", kind, n, e)
			}
		}
	}
}

func TestHeads(t *testing.T) {
	if got, e := holdDecode(t, ""); e != api.ErrShort || !same(got, api.Receipt{}) {
		t.Error(got, e)
	}
	for b := range 256 {
		head := string([]byte{byte(b)})
		isHead := slices.Contains([]int{1, 2, 4, 126}, b)
		behind := []string{"", "\x80", "\xc0", "\xff", strings.Repeat("\x00", 70000)}
		for _, x := range formed() {
			behind = append(behind, wireOf(0, partsOf(x)...), wireOf(x.Kind, partsOf(x)...))
		}
		for _, own := range behind {
			got, e := holdDecode(t, head+own)
			switch {
			case b < 192 && !isHead && e != api.ErrKind, isHead && e == api.ErrKind, b >= 192 && e == api.ErrKind:
				t.Errorf("the head %d, and %.40x: %v", b, own, e)
			case isHead && e == api.OK && got.Kind != b, b >= 192 && got.Kind != 0:
				t.Errorf("the head %d: kind %d", b, got.Kind)
			}
		}
		for n := range 3 {
			holdDecode(t, head+strings.Repeat(head, n))
			holdDecode(t, head+"\xc0"+strings.Repeat("\x80", n))
		}
	}
	for _, x := range []struct {
		s string
		e api.Errno
	}{
		{"\x00", api.ErrKind},
		{"\x00\xc3\x80\x80\xc0", api.ErrKind},
		{"\x03\xc3\x80\x80\xc0", api.ErrKind},
		{"\x7f\xc3\x80\x80\xc0", api.ErrKind},
		{"\x80", api.ErrKind},
		{"\xbf", api.ErrKind},
		{"\xb8\x01\xc0", api.ErrKind},
		{"\x01", api.ErrShort},
		{"\x7e", api.ErrShort},
		{"\x01\xc0", api.ErrShort},
		{"\xc0", api.ErrShort},
		{"\x01\x80", api.ErrForm},
		{"\x01\x01", api.ErrForm},
		{"\x04\x83\x80\x80\xc0", api.ErrForm},
		{"\x01\x01\xc3\x80\x80\xc0", api.ErrTail},
		{"\xc3\x80\x80\x80", api.ErrForm},
		{"\xc3\x80\x80\xc0", api.OK},
		{"\xc4\x80\x80\xc0\x80", api.ErrLong},
		{"\x7e\xc4\x80\x80\xc0\x80", api.OK},
		{"\x7e\xc5\x80\x80\xc0\x80\x01", api.OK},
		{"\x7e\xc5\x80\x80\xc0\x80\x80", api.ErrForm},
		{"\x7e\xc5\x80\x80\xc0\x80\x02", api.ErrForm},
		{"\x7e\xc5\x80\x80\xc0\x80\x00", api.ErrSpare},
		{"\x7e\xc5\x80\x80\xc0\xc0\x02", api.ErrForm},
		{"\x7e\xc5\x80\x80\xc0\x00\x02", api.ErrSpare},
		{"\x7e\xc6\x80\x80\xc0\x80\x01\x01", api.ErrLong},
	} {
		if _, e := holdDecode(t, x.s); e != x.e {
			t.Errorf("%x: %v, want %v", x.s, e, x.e)
		}
	}
}

// What unrlp.Decode tells of what is behind the head is told ahead of all else of it.
func TestDecodeTellsWhatUnrlpTells(t *testing.T) {
	for _, x := range formed() {
		s, e := receipt.Encode(x)
		if e != api.OK {
			t.Fatal(e)
		}
		head, own := headOf(x.Kind), s[len(headOf(x.Kind)):]
		for n := range len(own) {
			if got, e := holdDecode(t, head+own[:n]); e != api.ErrShort || !same(got, api.Receipt{}) {
				t.Errorf("%v, %d bytes of %d: %v, %v", x, n, len(own), got, e)
			}
		}
		for _, more := range []string{"\x00", "\x80", "\xc0", own, "\xff\xff\xff", strings.Repeat("\x00", 65536-len(own))} {
			if got, e := holdDecode(t, s+more); e != api.ErrTail || !same(got, api.Receipt{}) {
				t.Errorf("%v, and %.40x more: %v, %v", x, more, got, e)
			}
		}
		if _, e := holdDecode(t, s+strings.Repeat("\x00", 65537-len(own))); e != api.ErrLong {
			t.Errorf("%v, and too many bytes more: %v", x, e)
		}
	}
	for _, x := range []struct {
		name string
		own  string
		e    api.Errno
	}{
		{"a length that needs no bytes", "\xf8\x03\x80\x80\xc0", api.ErrSpare},
		{"a length with a zero ahead", "\xf9\x00\x40" + strings.Repeat("\x80", 64), api.ErrSpare},
		{"a length of 4 bytes", "\xfb\x00\x00\x00\x01\x80", api.ErrLong},
		{"a byte with a head", "\xc4\x81\x01\x80\xc0", api.ErrSpare},
		{"a byte with a head, behind too many", "\xc8" + strings.Repeat("\x80", 6) + "\x81\x05", api.ErrSpare},
		{"a list in it that is not all there", "\xc3\x80\x80\xc1", api.ErrShort},
		{"513 parts", bytesOf(many(513, text(""))), api.ErrLong},
		{"513 logs", bytesOf(list(text(""), text(""), many(513, list()))), api.ErrLong},
		{"a last part in 12 lists", deep(12), api.ErrDeep},
		{"a last part in 11 lists", deep(11), api.ErrForm},
		{"two lists", "\xc3\x80\x80\xc0\xc3\x80\x80\xc0", api.ErrTail},
	} {
		for _, kind := range kindsAre() {
			if _, e := holdDecode(t, headOf(kind)+x.own); e != x.e {
				t.Errorf("kind %d, %s: %v, want %v", kind, x.name, e, x.e)
			}
		}
		// One of no form is an item all the same.
		if _, e := unrlp.Decode(x.own); e != x.e && x.e != api.ErrForm {
			t.Errorf("%s: unrlp.Decode tells %v", x.name, e)
		}
	}
}

// deep is a receipt of a list for its status, the last one of which stands in so many.
func deep(lists int) string {
	it := list()
	for range lists - 1 {
		it = list(it)
	}
	return bytesOf(list(it, text(""), list()))
}

// near hands on a text, all that differ from it by one byte, and those that lack one, or have one more.
func near(s string, each func(string)) {
	each(s)
	for at := range len(s) + 1 {
		for b := range 256 {
			one := string([]byte{byte(b)})
			each(s[:at] + one + s[at:])
			if at < len(s) {
				each(s[:at] + one + s[at+1:])
			}
		}
		if at < len(s) {
			each(s[:at] + s[at+1:])
			each(s[at:])
		}
	}
}

// Nothing else is decoded: of all that is near to what is encoded just that is read whose bytes it is.
func TestNothingElseIsDecoded(t *testing.T) {
	read := 0
	hold := func(s string) {
		if _, e := holdDecode(t, s); e == api.OK {
			read++
		}
	}
	small := formed()
	for i := range small {
		small[i].Logs = small[i].Logs[max(len(small[i].Logs), 1)-1:]
	}
	for _, x := range append(small, fullOf(api.TxDeposit)) {
		s, e := receipt.Encode(x)
		if e != api.OK {
			t.Fatal(e)
		}
		near(s, hold)
	}
	if read < 10000 {
		t.Errorf("only %d are read", read)
	}
}

// Texts of two and three parts' bytes, all of them.
func TestAllSmallTexts(t *testing.T) {
	some := []byte{0, 1, 2, 127, 128, 129, 191, 192, 193}
	for _, head := range []string{"\xc3", "\x01\xc3", "\x7e\xc3", "\x7e\xc4", "\x7e\xc5", "\xc4"} {
		n := int(head[len(head)-1]) - 192
		own := make([]byte, n)
		var all func(at int)
		all = func(at int) {
			if at == n {
				holdDecode(t, head+string(own))
				return
			}
			for _, b := range some {
				own[at] = b
				all(at + 1)
			}
		}
		all(0)
	}
}

// Receipts of all sorts whose items, or bytes, were changed a little.
func TestAllSortsSpoiled(t *testing.T) {
	seen := map[api.Errno]int{}
	samples(5, func(r *rand.Rand, x api.Receipt) {
		for range 4 {
			l := partsOf(x)
			all := list(l...)
			for range 1 + r.Intn(2) {
				spoilItem(r, &all)
			}
			_, e := holdDecode(t, headOf(x.Kind)+bytesOf(all))
			seen[e]++
			s, _ := encodeOf(x)
			for range 1 + r.Intn(2) {
				s = spoilText(r, s)
			}
			_, e = holdDecode(t, s)
			seen[e]++
		}
	})
	for _, e := range []api.Errno{api.OK, api.ErrForm, api.ErrShort, api.ErrTail, api.ErrLong, api.ErrSpare, api.ErrKind} {
		if seen[e] < 20 {
			t.Errorf("only %d are told %v", seen[e], e)
		}
	}
}
