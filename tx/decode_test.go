package tx_test

import (
	"math"
	"math/rand"
	"slices"
	"strconv"
	"strings"
	"testing"

	"rescript/api"
	"rescript/rlp"
	"rescript/tx"
	"rescript/unrlp"
)

// fault is an item that is wrong at a field's place, and what is told of it.
type fault struct {
	name string
	it   api.Item
	e    api.Errno
}

// lengths are bytes of these lengths, and a list, all of no form.
func lengths(n ...int) []fault {
	l := []fault{{"a list", list(), api.ErrForm}, {"a list of one", list(text(ab(20))), api.ErrForm}}
	for _, n := range n {
		l = append(l, fault{strconv.Itoa(n) + " bytes", text(ab(n)), api.ErrForm})
	}
	return l
}

func numberFaults() []fault {
	return []fault{
		{"a list", list(), api.ErrForm},
		{"a list of a number", list(text("\x01")), api.ErrForm},
		{"a zero", text("\x00"), api.ErrSpare},
		{"a zero ahead", text("\x00\x01"), api.ErrSpare},
		{"8 bytes, a zero ahead", text("\x00" + ab(7)), api.ErrSpare},
		{"9 bytes", text(ab(9)), api.ErrLong},
		{"9 bytes, a zero ahead", text("\x00" + ab(8)), api.ErrLong},
	}
}

func wordFaults() []fault {
	return []fault{
		{"a list", list(), api.ErrForm},
		{"a list of a number", list(text("\x01")), api.ErrForm},
		{"a zero", text("\x00"), api.ErrSpare},
		{"32 bytes, a zero ahead", text("\x00" + ab(31)), api.ErrSpare},
		{"33 bytes", text(ab(33)), api.ErrLong},
		{"33 bytes, a zero ahead", text("\x00" + ab(32)), api.ErrLong},
	}
}

// pairOf and authOf are those items, with some parts replaced.
func pairOf(addr, keys api.Item) api.Item { return list(addr, keys) }

func goodPair() api.Item { return pairOf(text(ab(20)), list(text(ab(32)))) }

func authParts() []api.Item {
	return []api.Item{text("\x05"), text(ab(20)), text("\x06"), text("\x01"), text("\x07"), text("\x08")}
}

func authWith(part int, it api.Item) api.Item {
	l := authParts()
	l[part] = it
	return list(l...)
}

func accessFaults() []fault {
	addr, key, good := text(ab(20)), text(ab(32)), goodPair()
	l := []fault{
		{"bytes", text(""), api.ErrForm},
		{"a byte", text("\x01"), api.ErrForm},
		{"17 pairs", many(17, good), api.ErrLong},
		{"17 that are none", many(17, text("")), api.ErrLong},
		{"bytes for a pair", list(text("")), api.ErrForm},
		{"bytes for the second pair", list(good, text(ab(2))), api.ErrForm},
		{"a pair of none", list(list()), api.ErrShort},
		{"a pair of one", list(list(addr)), api.ErrShort},
		{"a pair of one that is none", list(list(text(""))), api.ErrShort},
		{"a pair of three", list(list(addr, list(), list())), api.ErrLong},
		{"a pair of three that are none", list(list(list(), addr, addr)), api.ErrLong},
		{"bytes for keys", list(pairOf(addr, text(""))), api.ErrForm},
		{"a key for keys", list(pairOf(addr, key)), api.ErrForm},
		{"17 keys", list(pairOf(addr, many(17, key))), api.ErrLong},
		{"17 keys that are none", list(pairOf(addr, many(17, list()))), api.ErrLong},
		{"a list for a key", list(pairOf(addr, list(key, list()))), api.ErrForm},
		{"a list of a key for a key", list(pairOf(addr, list(list(key)))), api.ErrForm},
		{"the address ahead of 17 keys", list(pairOf(text(ab(19)), many(17, key))), api.ErrForm},
		{"17 keys ahead of the next pair", list(pairOf(addr, many(17, key)), text("")), api.ErrLong},
		{"a pair of one ahead of the next", list(list(addr), list(addr, list(), list())), api.ErrShort},
		{"a pair of three ahead of the next", list(list(addr, list(), list()), list(addr)), api.ErrLong},
		{"a key ahead of the next pair", list(pairOf(addr, list(key, text(ab(31)))), list(addr)), api.ErrForm},
		{"a pair of one behind 15", list(append(slices.Repeat([]api.Item{good}, 15), list(addr))...), api.ErrShort},
		{"17 keys behind 15", list(append(slices.Repeat([]api.Item{good}, 15), pairOf(addr, many(17, key)))...), api.ErrLong},
	}
	for _, x := range lengths(0, 1, 19, 21, 32) {
		l = append(l, fault{"for an address " + x.name, list(good, pairOf(x.it, list())), x.e})
	}
	for _, x := range lengths(0, 1, 20, 31, 33) {
		l = append(l, fault{"for a key " + x.name, list(good, pairOf(addr, list(key, x.it))), x.e})
	}
	return l
}

func authFaults() []fault {
	good := list(authParts()...)
	l := []fault{
		{"bytes", text(""), api.ErrForm},
		{"bytes of one's length", text(ab(20)), api.ErrForm},
		{"9", many(9, good), api.ErrLong},
		{"9 that are none", many(9, text("")), api.ErrLong},
		{"bytes for one", list(text("")), api.ErrForm},
		{"bytes for the second one", list(good, text(ab(6))), api.ErrForm},
		{"one of no parts", list(list()), api.ErrShort},
		{"one of 5 parts", list(list(authParts()[:5]...)), api.ErrShort},
		{"one of 5 parts that are none", list(many(5, list())), api.ErrShort},
		{"one of 7 parts", list(list(append(authParts(), text(""))...)), api.ErrLong},
		{"one of 7 parts that are none", list(many(7, list())), api.ErrLong},
		{"one of 5 parts ahead of one of 7", list(many(5, list()), many(7, list())), api.ErrShort},
		{"one of 7 parts ahead of one of 5", list(many(7, list()), many(5, list())), api.ErrLong},
		{"one of 5 parts behind 7", list(append(slices.Repeat([]api.Item{good}, 7), many(5, text("")))...), api.ErrShort},
	}
	faults := [][]fault{numberFaults(), lengths(0, 1, 19, 21, 32), numberFaults(), numberFaults(), wordFaults(), wordFaults()}
	for i, own := range faults {
		for _, x := range own {
			place := "for part " + strconv.Itoa(i) + " " + x.name
			l = append(l, fault{place, list(good, authWith(i, x.it)), x.e})
			// Of two parts the first one is told, and all of one ahead of the next.
			for j := i + 1; j < len(faults); j++ {
				for _, y := range sorts(faults[j]) {
					both := authWith(i, x.it)
					both.Items[j] = y.it
					l = append(l, fault{place + " ahead of " + strconv.Itoa(j), list(both), x.e})
				}
			}
			l = append(l, fault{place + " ahead of the next", list(authWith(i, x.it), many(7, list())), x.e})
		}
	}
	return l
}

// faultsOf are the faults that a field may have.
func faultsOf(name string) []fault {
	switch name {
	case "Chain", "Nonce", "Gas", "Y", "V":
		return numberFaults()
	case "Tip", "Price", "Value", "R", "S", "Mint":
		return wordFaults()
	case "To":
		return lengths(1, 19, 21, 32)
	case "From":
		return lengths(0, 1, 19, 21, 32)
	case "Source":
		return lengths(0, 1, 20, 31, 33)
	case "Data":
		return []fault{
			{"a list", list(), api.ErrForm},
			{"a list of bytes", list(text(ab(9))), api.ErrForm},
			{"4097 bytes", text(ab(4097)), api.ErrLong},
			{"60000 bytes", text(ab(60000)), api.ErrLong},
		}
	case "System":
		return append(lengths(2, 20), fault{"a zero", text("\x00"), api.ErrForm}, fault{"a two", text("\x02"), api.ErrForm}, fault{"255", text("\xff"), api.ErrForm})
	case "Access":
		return accessFaults()
	case "Auths":
		return authFaults()
	}
	panic(name)
}

// Each field of each kind, with each fault alone.
func TestDecodeTellsAFieldsFault(t *testing.T) {
	for _, kind := range kindsAre() {
		for i, name := range namesOf(kind) {
			for _, x := range faultsOf(name) {
				for _, own := range []api.Tx{few(kind), full(kind)} {
					l := itemsOf(own)
					l[i] = x.it
					if _, e := holdDecode(t, wireOf(kind, l...)); e != x.e {
						t.Errorf("kind %d, for %s %s: %v, want %v", kind, name, x.name, e, x.e)
					}
				}
			}
		}
	}
}

// Of two fields that are wrong the first one is told, whichever faults they have; what is wrong
// with V, with Y, and with what a kind must have, is told behind all fields.
func TestDecodeTellsTheFirstFault(t *testing.T) {
	for _, kind := range kindsAre() {
		names := namesOf(kind)
		for i, name := range names {
			for j := i + 1; j < len(names); j++ {
				for _, x := range sorts(faultsOf(name)) {
					for _, y := range sorts(faultsOf(names[j])) {
						l := itemsOf(full(kind))
						l[i], l[j] = x.it, y.it
						if _, e := tx.Decode(wireOf(kind, l...)); e != x.e {
							t.Errorf("kind %d, for %s %s, for %s %s: %v, want %v", kind, name, x.name, names[j], y.name, e, x.e)
						}
					}
				}
			}
		}
	}
}

// sorts are one fault of each error that there is among them.
func sorts(l []fault) []fault {
	var own []fault
	for _, x := range l {
		if !slices.ContainsFunc(own, func(y fault) bool { return y.e == x.e }) {
			own = append(own, x)
		}
	}
	return own
}

// late is what is wrong with a field that can be read.
type late struct {
	kind int
	name string
	it   api.Item
}

func TestWhatIsToldBehindAllFields(t *testing.T) {
	twice := authWith(3, text("\x02"))
	lates := []late{
		{0, "V", text("")}, {0, "V", text("\x1a")}, {0, "V", text("\x1d")}, {0, "V", text("\x24")}, {0, "V", text("\xff\xff\xff\xff\xff\xff\xff\xff")},
		{1, "Y", text("\x02")}, {2, "Y", text("\x02")}, {4, "Y", text("\x02")}, {4, "Y", text("\xff\xff\xff\xff\xff\xff\xff\xff")},
		{4, "To", text("")}, {4, "Auths", list()}, {4, "Auths", list(twice)}, {4, "Auths", list(list(authParts()...), twice)},
	}
	for _, x := range lates {
		at := slices.Index(namesOf(x.kind), x.name)
		l := itemsOf(full(x.kind))
		l[at] = x.it
		if _, e := holdDecode(t, wireOf(x.kind, l...)); e != api.ErrForm {
			t.Errorf("kind %d, %s of %v: %v", x.kind, x.name, x.it, e)
		}
		for i, name := range namesOf(x.kind) {
			if i == at {
				continue
			}
			for _, y := range sorts(faultsOf(name)) {
				both := slices.Clone(l)
				both[i] = y.it
				if _, e := holdDecode(t, wireOf(x.kind, both...)); e != y.e {
					t.Errorf("kind %d, %s of %v, for %s %s: %v, want %v", x.kind, x.name, x.it, name, y.name, e, y.e)
				}
			}
		}
	}
}

func TestV(t *testing.T) {
	type told struct {
		v        uint64
		chain, y uint64
		e        api.Errno
	}
	all := []told{
		{27, 0, 0, api.OK}, {28, 0, 1, api.OK},
		{37, 1, 0, api.OK}, {38, 1, 1, api.OK}, {39, 2, 0, api.OK}, {40, 2, 1, api.OK},
		{127, 46, 0, api.OK}, {128, 46, 1, api.OK}, {255, 110, 0, api.OK}, {256, 110, 1, api.OK},
		{1<<63 + 33, 1<<62 - 1, 0, api.OK}, {1<<63 + 34, 1<<62 - 1, 1, api.OK},
		{1<<63 + 35, 1 << 62, 0, api.OK}, {1<<63 + 36, 1 << 62, 1, api.OK},
		{1<<63 + 37, 0, 0, api.ErrForm}, {1<<63 + 38, 0, 0, api.ErrForm}, {1<<63 + 39, 0, 0, api.ErrForm},
		{math.MaxUint64 - 1, 0, 0, api.ErrForm}, {math.MaxUint64, 0, 0, api.ErrForm},
	}
	for v := range uint64(37) {
		if v != 27 && v != 28 {
			all = append(all, told{v, 0, 0, api.ErrForm})
		}
	}
	for _, x := range all {
		l := itemsOf(full(0))
		l[6] = smallOf(x.v)
		got, e := holdDecode(t, wireOf(0, l...))
		if got.Chain != x.chain || got.Y != x.y || e != x.e {
			t.Errorf("V of %d: %d, %d, %v, want %v", x.v, got.Chain, got.Y, e, x)
		}
		if x.e != api.OK {
			continue
		}
		own := full(0)
		own.Chain, own.Y = x.chain, x.y
		if s, e := holdEncode(t, own); s != wireOf(0, l...) || e != api.OK {
			t.Errorf("Chain %d, Y %d: %x, %v", x.chain, x.y, s, e)
		}
	}
}

func TestHowManyFields(t *testing.T) {
	for _, kind := range kindsAre() {
		many := len(namesOf(kind))
		l := itemsOf(full(kind))
		for n := range many {
			if _, e := holdDecode(t, wireOf(kind, l[:n]...)); e != api.ErrShort {
				t.Errorf("kind %d, %d fields: %v", kind, n, e)
			}
			if _, e := holdDecode(t, wireOf(kind, l[n+1:]...)); e != api.ErrShort {
				t.Errorf("kind %d, fields from %d on: %v", kind, n+1, e)
			}
			if _, e := holdDecode(t, wireOf(kind, slices.Repeat([]api.Item{list()}, n)...)); e != api.ErrShort {
				t.Errorf("kind %d, %d fields that are none: %v", kind, n, e)
			}
		}
		for _, more := range []int{1, 2, 40} {
			for _, it := range []api.Item{text(""), list(), text(ab(40))} {
				if _, e := holdDecode(t, wireOf(kind, append(slices.Clone(l), slices.Repeat([]api.Item{it}, more)...)...)); e != api.ErrLong {
					t.Errorf("kind %d, %d fields more: %v", kind, more, e)
				}
				if _, e := holdDecode(t, wireOf(kind, slices.Repeat([]api.Item{it}, many+more)...)); e != api.ErrLong {
					t.Errorf("kind %d, %d fields of one sort: %v", kind, many+more, e)
				}
			}
		}
		// Another kind's fields: their number is told first.
		for _, other := range kindsAre() {
			want := api.ErrForm
			switch theirs := len(namesOf(other)); {
			case other == kind:
				want = api.OK
			case theirs < many:
				want = api.ErrShort
			case theirs > many:
				want = api.ErrLong
			}
			if _, e := holdDecode(t, wireOf(kind, itemsOf(full(other))...)); e != want {
				t.Errorf("the fields of kind %d as those of %d: %v, want %v", other, kind, e, want)
			}
		}
	}
}

func TestHeads(t *testing.T) {
	if got, e := holdDecode(t, ""); e != api.ErrShort || !same(got, api.Tx{}) {
		t.Error(got, e)
	}
	for b := range 256 {
		head := string([]byte{byte(b)})
		isHead := slices.Contains([]int{1, 2, 4, 126}, b)
		behind := []string{"", "\x80", "\xc0", "\xff", strings.Repeat("\x00", 70000)}
		for _, kind := range kindsAre() {
			behind = append(behind, wireOf(0, itemsOf(few(kind))...), wireOf(0, itemsOf(full(kind))...))
		}
		for _, own := range behind {
			got, e := holdDecode(t, head+own)
			switch {
			case b < 192 && !isHead && e != api.ErrKind, isHead && e == api.ErrKind, b >= 192 && e == api.ErrKind:
				t.Errorf("the head %d, and %x: %v", b, own[:min(len(own), 40)], e)
			case isHead && e == api.OK && got.Kind != b, b >= 192 && got.Kind != 0:
				t.Errorf("the head %d: kind %d", b, got.Kind)
			}
		}
		for n := range 3 {
			holdDecode(t, head+strings.Repeat(head, n))
			holdDecode(t, head+"\xc0"+strings.Repeat("\x80", n))
		}
	}
	// A head ahead of what has one, of none, and of a legacy one.
	for _, x := range []struct {
		s string
		e api.Errno
	}{
		{"\x01", api.ErrShort},
		{"\x7e", api.ErrShort},
		{"\x00", api.ErrKind},
		{"\x00" + wireOf(0, itemsOf(few(0))...), api.ErrKind},
		{"\x03" + wireOf(0, itemsOf(few(1))...), api.ErrKind},
		{"\x7f" + wireOf(0, itemsOf(few(126))...), api.ErrKind},
		{"\x80", api.ErrKind},
		{"\x80" + wireOf(0, itemsOf(few(0))...), api.ErrKind},
		{"\xbf", api.ErrKind},
		{"\xb8\x01\xc0", api.ErrKind},
		{"\x01\x01" + wireOf(0, itemsOf(few(1))...), api.ErrTail},
		{"\x01\x01", api.ErrForm},
		{"\x01\x80", api.ErrForm},
		{"\x01\x8c" + strings.Repeat("\x80", 12), api.ErrForm},
		{"\x04\x94" + ab(20), api.ErrForm},
		{"\xc0", api.ErrShort},
		{"\x01\xc0", api.ErrShort},
	} {
		if _, e := holdDecode(t, x.s); e != x.e {
			t.Errorf("%x: %v, want %v", x.s, e, x.e)
		}
	}
}

// What unrlp.Decode tells of what is behind the head is told ahead of all else of it.
func TestDecodeTellsWhatUnrlpTells(t *testing.T) {
	for _, kind := range kindsAre() {
		for _, x := range []api.Tx{few(kind), full(kind)} {
			s, e := tx.Encode(x)
			if e != api.OK {
				t.Fatal(e)
			}
			head, own := headOf(kind), s[len(headOf(kind)):]
			for n := range len(own) {
				want := api.ErrShort
				if _, e := holdDecode(t, head+own[:n]); e != want {
					t.Errorf("kind %d, %d bytes of %d: %v", kind, n, len(own), e)
				}
			}
			for _, more := range []string{"\x00", "\x80", "\xc0", own, "\xff\xff\xff"} {
				if _, e := holdDecode(t, s+more); e != api.ErrTail {
					t.Errorf("kind %d, and %x more: %v", kind, more, e)
				}
			}
			if _, e := holdDecode(t, s+strings.Repeat("\x00", 65537-len(own))); e != api.ErrLong {
				t.Errorf("kind %d, and too many bytes more: %v", kind, e)
			}
			if _, e := holdDecode(t, s+strings.Repeat("\x00", 65536-len(own))); e != api.ErrTail {
				t.Errorf("kind %d, and as many bytes more as may be: %v", kind, e)
			}
		}
		for _, x := range []struct {
			name string
			own  string
			e    api.Errno
		}{
			{"a length that needs no bytes", "\xf8\x0a" + strings.Repeat("\x80", 10), api.ErrSpare},
			{"a length with a zero ahead", "\xf9\x00\x40" + strings.Repeat("\x80", 64), api.ErrSpare},
			{"a length of 4 bytes", "\xfb\x00\x00\x00\x01\x80", api.ErrLong},
			{"a byte with a head", "\xc2\x81\x05", api.ErrSpare},
			{"a byte with a head, behind too many", "\xd0" + strings.Repeat("\x80", 14) + "\x81\x05", api.ErrSpare},
			{"a list in it that is not all there", "\xc2\x80\xc1", api.ErrShort},
			{"513 items", bytesOf(many(513, text(""))), api.ErrLong},
			{"13 lists", deep(13), api.ErrDeep},
			{"12 lists", deep(12), api.ErrShort},
			{"13 lists amid", bytesOf(list(text(""), list())) + deep(1), api.ErrTail},
		} {
			if _, e := unrlp.Decode(x.own); x.e != api.ErrShort && e != x.e {
				t.Errorf("%s: unrlp.Decode tells %v", x.name, e)
			}
			if _, e := holdDecode(t, headOf(kind)+x.own); e != x.e {
				t.Errorf("kind %d, %s: %v, want %v", kind, x.name, e, x.e)
			}
		}
	}
}

// deep is a list in lists, so many together.
func deep(lists int) string {
	it := list()
	for range lists - 1 {
		it = list(it)
	}
	return bytesOf(it)
}

// near hands on a text, all that differ from it by one byte, and those that lack one, or have one more.
func near(s string, each func(string)) {
	each(s)
	for at := range len(s) + 1 {
		for b := range 256 {
			one := string([]byte{byte(b)})
			each(s[:at] + one + s[at:])
			if at < len(s) {
				each(s[:at] + one + s[at+1:])
			}
		}
		if at < len(s) {
			each(s[:at] + s[at+1:])
			each(s[at:])
			each(s[:at])
		}
	}
}

// All texts near by: whatever is decoded is encoded again, byte by byte.
func TestNothingElseIsDecoded(t *testing.T) {
	decoded := 0
	for _, kind := range kindsAre() {
		x := few(kind)
		if kind == api.TxAccess {
			x.Access = []api.Access{{Addr: ab(20), Keys: keys(1)}}
		}
		s, _ := encodeOf(x)
		near(s, func(s string) {
			if _, e := holdDecode(t, s); e == api.OK {
				decoded++
			}
		})
	}
	if decoded < 10000 {
		t.Errorf("only %d texts are decoded", decoded)
	}
}

// Texts of all sorts: of transactions, of items that were spoiled, of bytes that were spoiled.
func TestDecodeOfAllSorts(t *testing.T) {
	seen := map[api.Errno]int{}
	samples(5, func(r *rand.Rand, x api.Tx) {
		s, e := encodeOf(x)
		if e != api.OK {
			t.Fatalf("%v is no transaction: %v", brief(x), e)
		}
		it, e := unrlp.Decode(s[len(headOf(x.Kind)):])
		if e != api.OK {
			t.Fatal(e)
		}
		for range 4 {
			spoilItem(r, &it)
			if own := bytesOf(it); rlp.Check(it) == api.OK && it.List {
				_, e := holdDecode(t, headOf(x.Kind)+own)
				seen[e]++
			}
			s = spoilText(r, s)
			_, e := holdDecode(t, s)
			seen[e]++
		}
	})
	for _, e := range []api.Errno{api.OK, api.ErrForm, api.ErrShort, api.ErrTail, api.ErrLong, api.ErrSpare, api.ErrKind} {
		if seen[e] < 100 {
			t.Errorf("only %d texts are told %v", seen[e], e)
		}
	}
}

// Beside an error the transaction is a zero one, however much was read ahead of it.
func TestBesideAnErrorAllIsZero(t *testing.T) {
	told := 0
	for _, kind := range kindsAre() {
		s, _ := tx.Encode(full(kind))
		near(s[:min(len(s), 60)], func(begin string) {
			own := begin + s[min(len(s), 60):]
			got, e := tx.Decode(own)
			if e == api.OK {
				return
			}
			told++
			if !same(got, api.Tx{}) {
				t.Fatalf("%x: %v beside %v", own, got, e)
			}
		})
		last := itemsOf(full(kind))
		last[len(last)-1] = list()
		if got, e := tx.Decode(wireOf(kind, last...)); !same(got, api.Tx{}) || e != api.ErrForm {
			t.Errorf("kind %d: %v, %v", kind, got, e)
		}
	}
	if told < 10000 {
		t.Errorf("only %d are told an error", told)
	}
}
