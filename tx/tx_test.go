package tx_test

import (
	"encoding/hex"
	"math"
	"math/rand"
	"reflect"
	"strings"
	"testing"
	"unsafe"

	"rescript/api"
	"rescript/tx"
	"rescript/unrlp"
)

func text(s string) api.Item { return api.Item{Bytes: s} }

func list(l ...api.Item) api.Item { return api.Item{List: true, Items: l} }

// many is a list of an item so many times.
func many(n int, it api.Item) api.Item {
	l := list()
	for range n {
		l.Items = append(l.Items, it)
	}
	return l
}

// holdCheck, holdEncode and holdDecode hold the calls against the sentences.
func holdCheck(t *testing.T, x api.Tx) api.Errno {
	t.Helper()
	got, want := tx.Check(x), checkOf(x)
	if got != want {
		t.Errorf("Check(%v) = %v, want %v", brief(x), got, want)
	}
	return got
}

func holdEncode(t *testing.T, x api.Tx) (string, api.Errno) {
	t.Helper()
	want, e := encodeOf(x)
	got, found := tx.Encode(x)
	if got != want || found != e {
		t.Errorf("Encode(%v) = %x, %v, want %x, %v", brief(x), got, found, want, e)
	}
	return got, found
}

func holdDecode(t *testing.T, s string) (api.Tx, api.Errno) {
	t.Helper()
	want, e := decodeOf(s)
	got, found := tx.Decode(s)
	if !same(got, want) || found != e {
		t.Errorf("Decode(%x) = %v, %v, want %v, %v", s[:min(len(s), 200)], brief(got), found, brief(want), e)
	}
	if found != api.OK {
		return got, found
	}
	if again, e := tx.Encode(got); again != s || e != api.OK {
		t.Errorf("%x is decoded, and encoded as %x, %v", s, again, e)
	}
	return got, found
}

func TestBytesAtTheEdges(t *testing.T) {
	for _, x := range []struct {
		name string
		tx   api.Tx
		code string
	}{
		{"the chapter's example", api.Tx{}, "c9 80 80 80 80 80 80 1b 80 80"},
		{"a legacy one, Y 1", api.Tx{Y: 1}, "c9 80 80 80 80 80 80 1c 80 80"},
		{"a legacy one of Chain 1", api.Tx{Chain: 1}, "c9 80 80 80 80 80 80 25 80 80"},
		{"a legacy one of Chain 1, Y 1", api.Tx{Chain: 1, Y: 1}, "c9 80 80 80 80 80 80 26 80 80"},
		{"a legacy one of Chain 2^62", api.Tx{Chain: 1 << 62}, "d1 80 80 80 80 80 80 88 80 00 00 00 00 00 00 23 80 80"},
		{"a legacy one of Chain 2^62, Y 1", api.Tx{Chain: 1 << 62, Y: 1}, "d1 80 80 80 80 80 80 88 80 00 00 00 00 00 00 24 80 80"},
		{"an access one of zeros", few(1), "01 cb 80 80 80 80 80 80 80 c0 80 80 80"},
		{"a fee one of zeros", few(2), "02 cc 80 80 80 80 80 80 80 80 c0 80 80 80"},
		{
			"a code one of little", few(4),
			"04 f8 3c 80 80 80 80 80 94" + strings.Repeat("ab", 20) + "80 80 c0 db da 80 94" + strings.Repeat("ab", 20) + "80 80 80 80 80 80 80",
		},
		{"a deposit of little", few(126), "7e f8 3c a0" + strings.Repeat("ab", 32) + "94" + strings.Repeat("ab", 20) + "80 80 80 80 80 80"},
		{"a deposit of the system", with(few(126), func(t *api.Tx) { t.System = true }), "7e f8 3c a0" + strings.Repeat("ab", 32) + "94" + strings.Repeat("ab", 20) + "80 80 80 80 01 80"},
		{
			"a legacy one in order", api.Tx{Nonce: 1, Price: api.Word{2}, Gas: 3, To: ab(20), Value: api.Word{4}, Data: "\x05", R: api.Word{6}, S: api.Word{7}},
			"dd 01 02 03 94" + strings.Repeat("ab", 20) + "04 05 1b 06 07",
		},
		{
			"an access one in order", api.Tx{
				Kind: 1, Chain: 1, Nonce: 2, Price: api.Word{3}, Gas: 4, To: ab(20), Value: api.Word{5}, Data: "\x06",
				Access: []api.Access{{Addr: ab(20), Keys: []string{ab(32), ab(32)}}, {Addr: ab(20)}}, Y: 1, R: api.Word{7}, S: api.Word{8},
			},
			"01 f8 92 01 02 03 04 94" + strings.Repeat("ab", 20) + "05 06" +
				"f8 72 f8 59 94" + strings.Repeat("ab", 20) + "f8 42 a0" + strings.Repeat("ab", 32) + "a0" + strings.Repeat("ab", 32) +
				"d6 94" + strings.Repeat("ab", 20) + "c0 01 07 08",
		},
		{
			"a fee one in order", api.Tx{Kind: 2, Chain: 1, Nonce: 2, Tip: api.Word{3}, Price: api.Word{4}, Gas: 5, Value: api.Word{6}, Data: "\x07", Y: 1, R: api.Word{8}, S: api.Word{9}},
			"02 cc 01 02 03 04 05 80 06 07 c0 01 08 09",
		},
		{
			"a code one in order", api.Tx{
				Kind: 4, Chain: 1, Nonce: 2, Tip: api.Word{3}, Price: api.Word{4}, Gas: 5, To: ab(20), Value: api.Word{6}, Data: "\x07",
				Auths: []api.Auth{{Chain: 1, Addr: ab(20), Nonce: 2, Y: 1, R: api.Word{3}, S: api.Word{4}}}, Y: 1, R: api.Word{8}, S: api.Word{9},
			},
			"04 f8 3c 01 02 03 04 05 94" + strings.Repeat("ab", 20) + "06 07 c0 db da 01 94" + strings.Repeat("ab", 20) + "02 01 03 04 01 08 09",
		},
		{
			"a deposit in order", api.Tx{Kind: 126, Source: ab(32), From: ab(20), To: ab(20), Mint: api.Word{1}, Value: api.Word{2}, Gas: 3, System: true, Data: "\x04"},
			"7e f8 50 a0" + strings.Repeat("ab", 32) + "94" + strings.Repeat("ab", 20) + "94" + strings.Repeat("ab", 20) + "01 02 03 01 04",
		},
	} {
		code := strings.ReplaceAll(x.code, " ", "")
		want, err := hex.DecodeString(code)
		if err != nil {
			t.Fatal(err)
		}
		if s, e := holdEncode(t, x.tx); s != string(want) || e != api.OK {
			t.Errorf("%s: Encode is %x, %v", x.name, s, e)
		}
		if got, e := holdDecode(t, string(want)); !same(got, x.tx) || e != api.OK {
			t.Errorf("%s: Decode is %v, %v", x.name, got, e)
		}
	}
}

// A transaction that is widely known from where it is said how Chain stands in V.
func TestAKnownTransaction(t *testing.T) {
	code := "f86c098504a817c800825208943535353535353535353535353535353535353535880de0b6b3a76400008025" +
		"a028ef61340bd939bc2195fe537567866003e1a15d3c71ff63e1590620aa636276" +
		"a067cbe9d8997f761aecb703304b3800ccf555c9f3dc64214b297fb1966a3b6d83"
	s, err := hex.DecodeString(code)
	if err != nil {
		t.Fatal(err)
	}
	want := api.Tx{
		Chain: 1, Nonce: 9, Price: api.Word{20000000000}, Gas: 21000,
		To: strings.Repeat("\x35", 20), Value: api.Word{1000000000000000000},
		R: api.Word{0xe1590620aa636276, 0x03e1a15d3c71ff63, 0x2195fe5375678660, 0x28ef61340bd939bc},
		S: api.Word{0x297fb1966a3b6d83, 0xf555c9f3dc64214b, 0xecb703304b3800cc, 0x67cbe9d8997f761a},
	}
	if got, e := holdDecode(t, string(s)); !same(got, want) || e != api.OK {
		t.Errorf("%v, %v, want %v", got, e, want)
	}
	if got, e := holdEncode(t, want); got != string(s) || e != api.OK {
		t.Errorf("%x, %v", got, e)
	}
}

// Each kind has its fields, all of them or few, and what is encoded is decoded, part by part.
func TestEachKindThereAndBack(t *testing.T) {
	for _, kind := range kindsAre() {
		for _, x := range []api.Tx{few(kind), full(kind)} {
			s, e := holdEncode(t, x)
			if e != api.OK {
				t.Errorf("kind %d: %v", kind, e)
			}
			if got, e := holdDecode(t, s); !same(got, x) || e != api.OK {
				t.Errorf("kind %d: %v, %v, want %v", kind, got, e, x)
			}
		}
		v := reflect.ValueOf(full(kind))
		for i := range v.NumField() {
			if name := v.Type().Field(i).Name; name != "Kind" && v.Field(i).IsZero() == doesName(kind, name) {
				t.Errorf("kind %d: a full one has %v as its %s", kind, v.Field(i), name)
			}
		}
	}
}

// What may be at the edges that the chapter names, by Check, by Encode, and by Decode of its bytes.
func TestCheckAtTheEdges(t *testing.T) {
	type change func(t *api.Tx)
	text := func(at func(t *api.Tx) *string, n int) change { return func(t *api.Tx) { *at(t) = ab(n) } }
	to, data := func(t *api.Tx) *string { return &t.To }, func(t *api.Tx) *string { return &t.Data }
	source, from := func(t *api.Tx) *string { return &t.Source }, func(t *api.Tx) *string { return &t.From }
	pair := func(t *api.Tx) *string { t.Access = pairs(3); return &t.Access[2].Addr }
	key := func(t *api.Tx) *string { t.Access = pairs(2); t.Access[1].Keys = keys(3); return &t.Access[1].Keys[2] }
	auth := func(t *api.Tx) *string { t.Auths = auths(2); return &t.Auths[1].Addr }
	chain := func(n uint64) change { return func(t *api.Tx) { t.Chain = n } }
	y := func(n uint64) change { return func(t *api.Tx) { t.Y = n } }
	authY := func(n uint64) change { return func(t *api.Tx) { t.Auths = auths(3); t.Auths[2].Y = n } }
	access := func(n int) change { return func(t *api.Tx) { t.Access = pairs(n) } }
	manyKeys := func(n int) change { return func(t *api.Tx) { t.Access = pairs(2); t.Access[1].Keys = keys(n) } }
	manyAuths := func(n int) change { return func(t *api.Tx) { t.Auths = auths(n) } }
	all, open, signed := []int{0, 1, 2, 4, 126}, []int{1, 2, 4}, []int{0, 1, 2, 4}
	for _, x := range []struct {
		name   string
		kinds  []int
		change change
		e      api.Errno
	}{
		{"Data of 0", all, text(data, 0), api.OK},
		{"Data of 1", all, text(data, 1), api.OK},
		{"Data of 4096", all, text(data, 4096), api.OK},
		{"Data of 4097", all, text(data, 4097), api.ErrLong},
		{"Data of 100000", all, text(data, 100000), api.ErrLong},
		{"no To", []int{0, 1, 2, 126}, text(to, 0), api.OK},
		{"no To of a code one", []int{4}, text(to, 0), api.ErrForm},
		{"To of 1", all, text(to, 1), api.ErrForm},
		{"To of 19", all, text(to, 19), api.ErrForm},
		{"To of 20", all, text(to, 20), api.OK},
		{"To of 21", all, text(to, 21), api.ErrForm},
		{"To of 32", all, text(to, 32), api.ErrForm},
		{"Source of 0", []int{126}, text(source, 0), api.ErrForm},
		{"Source of 31", []int{126}, text(source, 31), api.ErrForm},
		{"Source of 32", []int{126}, text(source, 32), api.OK},
		{"Source of 33", []int{126}, text(source, 33), api.ErrForm},
		{"Source of 20", []int{126}, text(source, 20), api.ErrForm},
		{"From of 0", []int{126}, text(from, 0), api.ErrForm},
		{"From of 19", []int{126}, text(from, 19), api.ErrForm},
		{"From of 20", []int{126}, text(from, 20), api.OK},
		{"From of 21", []int{126}, text(from, 21), api.ErrForm},
		{"From of 32", []int{126}, text(from, 32), api.ErrForm},
		{"a pair of 0", open, text(pair, 0), api.ErrForm},
		{"a pair of 19", open, text(pair, 19), api.ErrForm},
		{"a pair of 20", open, text(pair, 20), api.OK},
		{"a pair of 21", open, text(pair, 21), api.ErrForm},
		{"a key of 0", open, text(key, 0), api.ErrForm},
		{"a key of 31", open, text(key, 31), api.ErrForm},
		{"a key of 32", open, text(key, 32), api.OK},
		{"a key of 33", open, text(key, 33), api.ErrForm},
		{"an auth of 0", []int{4}, text(auth, 0), api.ErrForm},
		{"an auth of 19", []int{4}, text(auth, 19), api.ErrForm},
		{"an auth of 20", []int{4}, text(auth, 20), api.OK},
		{"an auth of 21", []int{4}, text(auth, 21), api.ErrForm},
		{"Chain 0", signed, chain(0), api.OK},
		{"Chain 1", signed, chain(1), api.OK},
		{"Chain 2^62-1", signed, chain(1<<62 - 1), api.OK},
		{"Chain 2^62", signed, chain(1 << 62), api.OK},
		{"Chain 2^62+1 of a legacy one", []int{0}, chain(1<<62 + 1), api.ErrForm},
		{"Chain 2^63 of a legacy one", []int{0}, chain(1 << 63), api.ErrForm},
		{"Chain 2^64-1 of a legacy one", []int{0}, chain(math.MaxUint64), api.ErrForm},
		{"Chain 2^62+1", open, chain(1<<62 + 1), api.OK},
		{"Chain 2^64-1", open, chain(math.MaxUint64), api.OK},
		{"Y 0", signed, y(0), api.OK},
		{"Y 1", signed, y(1), api.OK},
		{"Y 2", signed, y(2), api.ErrForm},
		{"Y 2^64-1", signed, y(math.MaxUint64), api.ErrForm},
		{"an auth's Y 0", []int{4}, authY(0), api.OK},
		{"an auth's Y 1", []int{4}, authY(1), api.OK},
		{"an auth's Y 2", []int{4}, authY(2), api.ErrForm},
		{"an auth's Y 2^64-1", []int{4}, authY(math.MaxUint64), api.ErrForm},
		{"no Access", open, access(0), api.OK},
		{"Access of 1", open, access(1), api.OK},
		{"Access of 16", open, access(16), api.OK},
		{"Access of 17", open, access(17), api.ErrLong},
		{"Access of 600", open, access(600), api.ErrLong},
		{"no keys", open, manyKeys(0), api.OK},
		{"1 key", open, manyKeys(1), api.OK},
		{"16 keys", open, manyKeys(16), api.OK},
		{"17 keys", open, manyKeys(17), api.ErrLong},
		{"600 keys", open, manyKeys(600), api.ErrLong},
		{"no Auths", []int{4}, manyAuths(0), api.ErrForm},
		{"1 of Auths", []int{4}, manyAuths(1), api.OK},
		{"8 of Auths", []int{4}, manyAuths(8), api.OK},
		{"9 of Auths", []int{4}, manyAuths(9), api.ErrLong},
		{"System", []int{126}, func(t *api.Tx) { t.System = true }, api.OK},
		{"no System", []int{126}, func(t *api.Tx) { t.System = false }, api.OK},
	} {
		for _, kind := range x.kinds {
			for _, own := range []api.Tx{with(few(kind), x.change), with(full(kind), x.change)} {
				if e := holdCheck(t, own); e != x.e {
					t.Errorf("%s, kind %d: Check tells %v, want %v", x.name, kind, e, x.e)
				}
				s, e := holdEncode(t, own)
				if e != x.e {
					t.Errorf("%s, kind %d: Encode tells %v, want %v", x.name, kind, e, x.e)
				}
				if got, e := holdDecode(t, s); x.e == api.OK && (e != api.OK || !same(got, own)) {
					t.Errorf("%s, kind %d: Decode is %v, %v", x.name, kind, brief(got), e)
				}
				// Its fields as bytes all the same: they are read, or told as Check tells them.
				// (Of a legacy one a Chain or a Y that may not be may make the V of others.)
				if _, e := holdDecode(t, wireOf(kind, itemsOf(own)...)); e != x.e && kind != api.TxLegacy {
					t.Errorf("%s, kind %d: Decode of its fields tells %v, want %v", x.name, kind, e, x.e)
				}
			}
		}
	}
}

// With all that there may be of it a transaction has bytes, and they are read.
func TestTheGreatest(t *testing.T) {
	top := api.Word{math.MaxUint64, math.MaxUint64, math.MaxUint64, math.MaxUint64}
	for _, kind := range kindsAre() {
		x := full(kind)
		v := reflect.ValueOf(&x).Elem()
		for i := range v.NumField() {
			if !doesName(kind, v.Type().Field(i).Name) {
				continue
			}
			switch at := v.Field(i).Addr().Interface().(type) {
			case *uint64:
				*at = math.MaxUint64
			case *api.Word:
				*at = top
			case *[]api.Access:
				*at = pairs(16)
				for i := range *at {
					(*at)[i].Keys = keys(16)
				}
			case *[]api.Auth:
				*at = auths(8)
				for i := range *at {
					(*at)[i] = api.Auth{Chain: math.MaxUint64, Addr: ab(20), Nonce: math.MaxUint64, Y: 1, R: top, S: top}
				}
			}
		}
		x.Data, x.Y = ab(4096), min(x.Y, 1)
		if kind == api.TxLegacy {
			x.Chain = 1 << 62
		}
		s, e := holdEncode(t, x)
		if e != api.OK {
			t.Errorf("kind %d: %v", kind, e)
		}
		if got, e := holdDecode(t, s); e != api.OK || !same(got, x) {
			t.Errorf("kind %d: %v, %v", kind, brief(got), e)
		}
	}
}

func TestNoKind(t *testing.T) {
	for kind := -300; kind <= 600; kind++ {
		x := api.Tx{Kind: kind}
		if e := tx.Check(x); (e == api.ErrKind) != (len(namesOf(kind)) == 0) {
			t.Errorf("kind %d: %v", kind, e)
		}
		holdCheck(t, x)
		holdEncode(t, x)
	}
	// Whatever else is wrong with it, and however near it is to one that is.
	for _, kind := range []int{3, 5, 125, 127, 128, 192, 256, 256 + 1, 1<<32 + 2, math.MinInt, math.MaxInt, -1, -126} {
		for _, own := range kindsAre() {
			x := full(own)
			x.Kind, x.Data, x.To, x.Y = kind, ab(4097), ab(19), 2
			if e := holdCheck(t, x); e != api.ErrKind {
				t.Errorf("kind %d: %v", kind, e)
			}
			if s, e := holdEncode(t, x); s != "" || e != api.ErrKind {
				t.Errorf("kind %d: %x, %v", kind, s, e)
			}
		}
	}
}

// Each part that a kind does not name, alone, beside few parts and beside all.
func TestWhatAKindDoesNotName(t *testing.T) {
	more := api.Tx{
		Chain: 1, Nonce: 1, Tip: api.Word{0, 0, 0, 1}, Price: api.Word{1}, Gas: 1, To: ab(20), Value: api.Word{1}, Data: "\x00",
		Access: pairs(1), Auths: auths(1), Y: 1, R: api.Word{1}, S: api.Word{0, 1}, Source: ab(32), From: ab(20), Mint: api.Word{0, 0, 1}, System: true,
	}
	tried := 0
	for _, kind := range kindsAre() {
		for _, x := range []api.Tx{few(kind), full(kind)} {
			for i := range reflect.TypeOf(x).NumField() {
				if doesName(kind, reflect.TypeOf(x).Field(i).Name) {
					continue
				}
				tried++
				own := copyOf(x)
				reflect.ValueOf(&own).Elem().Field(i).Set(reflect.ValueOf(more).Field(i))
				if e := holdCheck(t, own); e != api.ErrForm {
					t.Errorf("kind %d with a %s: %v", kind, reflect.TypeOf(x).Field(i).Name, e)
				}
				if s, e := holdEncode(t, own); s != "" || e != api.ErrForm {
					t.Errorf("kind %d with a %s: %x, %v", kind, reflect.TypeOf(x).Field(i).Name, s, e)
				}
			}
		}
	}
	// Of 17 parts the kinds name 10 (V is two), 11, 12, 13 and 8.
	if tried != 2*(5*17-10-11-12-13-8) {
		t.Errorf("%d parts are tried", tried)
	}
}

// All that is of no form comes ahead of all that is too long.
func TestCheckInItsOrder(t *testing.T) {
	longs := []func(t *api.Tx){
		func(t *api.Tx) { t.Data = ab(4097) },
		func(t *api.Tx) { t.Access = pairs(17) },
		func(t *api.Tx) { t.Access = pairs(1); t.Access[0].Keys = keys(17) },
		func(t *api.Tx) { t.Auths = auths(9) },
	}
	forms := []func(t *api.Tx){
		func(t *api.Tx) { t.Mint = api.Word{1} },
		func(t *api.Tx) { t.To = ab(21) },
		func(t *api.Tx) { t.To = "" },
		func(t *api.Tx) { t.Y = 2 },
		func(t *api.Tx) { t.Access = append(t.Access, api.Access{Addr: ab(19)}) },
		func(t *api.Tx) { t.Access = append(t.Access, api.Access{Addr: ab(20), Keys: append(keys(17), ab(33))}) },
		func(t *api.Tx) { t.Auths = append(t.Auths, api.Auth{Addr: ab(19)}) },
		func(t *api.Tx) { t.Auths = append(t.Auths, api.Auth{Addr: ab(20), Y: 2}) },
	}
	for i, long := range longs {
		x := with(full(4), long)
		if e := holdCheck(t, x); e != api.ErrLong {
			t.Errorf("long %d: %v", i, e)
		}
		for j, form := range forms {
			if e := holdCheck(t, with(x, form)); e != api.ErrForm {
				t.Errorf("long %d, of no form %d: %v", i, j, e)
			}
		}
	}
	for i, long := range longs {
		// A list that is too long is none that may be there, where the kind has none.
		want := api.ErrForm
		if i == 0 {
			want = api.ErrLong
		}
		if e := holdCheck(t, with(few(0), long)); e != want {
			t.Errorf("long %d of a legacy one: %v, want %v", i, e, want)
		}
	}
	for kind := range 3 {
		if e := holdCheck(t, api.Tx{Kind: kind, Data: ab(4097), System: true}); e != api.ErrForm {
			t.Errorf("kind %d: %v", kind, e)
		}
	}
}

func TestSame(t *testing.T) {
	for _, kind := range kindsAre() {
		for _, x := range []api.Tx{few(kind), full(kind)} {
			if !tx.Same(x, copyOf(x)) || !tx.Same(x, x) {
				t.Errorf("%v is not as it is", x)
			}
			for name, own := range differing(x) {
				if tx.Same(x, own) || tx.Same(own, x) {
					t.Errorf("%v is told alike with another %s", x, name)
				}
				if !tx.Same(own, copyOf(own)) {
					t.Errorf("%v is not as it is", own)
				}
			}
		}
	}
	// nil or empty is never asked.
	x, y := api.Tx{Access: []api.Access{}, Auths: []api.Auth{}}, api.Tx{}
	if !tx.Same(x, y) || !tx.Same(y, x) {
		t.Error("nil and empty are told apart")
	}
	x.Access, y.Access = []api.Access{{Keys: []string{}}}, []api.Access{{}}
	if !tx.Same(x, y) || !tx.Same(y, x) {
		t.Error("nil and empty keys are told apart")
	}
}

// differing are all transactions that differ from one in one part.
func differing(x api.Tx) map[string]api.Tx {
	all := map[string]api.Tx{}
	add := func(name string, change func(t *api.Tx)) { all[name] = with(x, change) }
	for i := range reflect.TypeOf(x).NumField() {
		name := reflect.TypeOf(x).Field(i).Name
		add(name, func(t *api.Tx) {
			switch at := reflect.ValueOf(t).Elem().Field(i).Addr().Interface().(type) {
			case *int:
				*at++
			case *uint64:
				*at ^= 1 << 63
			case *string:
				*at += "\x00"
			case *bool:
				*at = !*at
			case *[]api.Access:
				*at = append(*at, api.Access{})
			case *[]api.Auth:
				*at = append(*at, api.Auth{})
			}
		})
		if _, ok := reflect.ValueOf(x).Field(i).Interface().(api.Word); ok {
			for part := range 4 {
				add(name+string(rune('0'+part)), func(t *api.Tx) {
					reflect.ValueOf(t).Elem().Field(i).Addr().Interface().(*api.Word)[part] ^= 1
				})
			}
			delete(all, name)
		}
	}
	if len(x.To) > 0 {
		add("To's byte", func(t *api.Tx) { t.To = "T" + t.To[1:] })
	}
	if len(x.Access) > 0 {
		add("pair's address", func(t *api.Tx) { t.Access[1].Addr = ab(20) })
		add("pair's keys, one more", func(t *api.Tx) { t.Access[1].Keys = keys(1) })
		add("pair's keys, one less", func(t *api.Tx) { t.Access[0].Keys = t.Access[0].Keys[:1] })
		add("key", func(t *api.Tx) { t.Access[0].Keys[1] = ab(32) })
		add("order of keys", func(t *api.Tx) {
			t.Access[0].Keys[0], t.Access[0].Keys[1] = t.Access[0].Keys[1], t.Access[0].Keys[0]
		})
		add("order of pairs", func(t *api.Tx) { t.Access[0], t.Access[1] = t.Access[1], t.Access[0] })
		add("pair less", func(t *api.Tx) { t.Access = t.Access[:1] })
	}
	if len(x.Auths) > 1 {
		add("auth's Chain", func(t *api.Tx) { t.Auths[1].Chain++ })
		add("auth's Addr", func(t *api.Tx) { t.Auths[1].Addr = ab(20) })
		add("auth's Nonce", func(t *api.Tx) { t.Auths[1].Nonce++ })
		add("auth's Y", func(t *api.Tx) { t.Auths[1].Y++ })
		add("auth's R", func(t *api.Tx) { t.Auths[1].R[3]++ })
		add("auth's S", func(t *api.Tx) { t.Auths[1].S[0]++ })
		add("auth less", func(t *api.Tx) { t.Auths = t.Auths[:1] })
		add("order of Auths", func(t *api.Tx) { t.Auths[0], t.Auths[1] = t.Auths[1], t.Auths[0] })
	}
	return all
}

// Transactions of all sorts: what is encoded is decoded, no two alike, and what was spoiled is told.
func TestAllSortsThereAndBack(t *testing.T) {
	seen := map[api.Errno]int{}
	codes := map[string]api.Tx{}
	samples(1, func(r *rand.Rand, x api.Tx) {
		for range 4 {
			e := holdCheck(t, x)
			seen[e]++
			s, found := holdEncode(t, x)
			if found != e {
				t.Errorf("Encode(%v) tells %v, Check %v", brief(x), found, e)
			}
			if e == api.OK {
				if got, e := holdDecode(t, s); e != api.OK || !same(got, x) || !tx.Same(got, x) {
					t.Errorf("%v is decoded as %v, %v", brief(x), brief(got), e)
				}
				if other, ok := codes[s]; ok && !same(x, other) {
					t.Errorf("%v and %v have the same bytes", brief(x), brief(other))
				}
				codes[s] = x
			} else if s != "" {
				t.Errorf("beside %v the text is %x", e, s)
			}
			x = copyOf(x)
			spoil(r, &x)
		}
	})
	for _, e := range []api.Errno{api.OK, api.ErrForm, api.ErrLong, api.ErrKind} {
		if seen[e] < 100 {
			t.Errorf("only %d are told %v", seen[e], e)
		}
	}
}

func TestSamplesAreAlikeOrNot(t *testing.T) {
	last := map[int]api.Tx{}
	samples(2, func(r *rand.Rand, x api.Tx) {
		other := copyOf(x)
		spoil(r, &other)
		for _, y := range []api.Tx{x, other, last[x.Kind]} {
			if got := tx.Same(x, y); got != same(x, y) {
				t.Errorf("Same(%v, %v) = %v", brief(x), brief(y), got)
			}
		}
		last[x.Kind] = x
	})
}

// standsIn tells whether a text stands in memory of another one.
func standsIn(s, all string) bool {
	own, first := uintptr(unsafe.Pointer(unsafe.StringData(s))), uintptr(unsafe.Pointer(unsafe.StringData(all)))
	return s != "" && first <= own && own < first+uintptr(len(all))
}

// textsOf are all texts of a transaction.
func textsOf(x api.Tx) []string {
	l := []string{x.To, x.Data, x.Source, x.From}
	for _, a := range x.Access {
		l = append(append(l, a.Addr), a.Keys...)
	}
	for _, a := range x.Auths {
		l = append(l, a.Addr)
	}
	return l
}

func TestAnswersShareNothingWithArguments(t *testing.T) {
	for _, kind := range kindsAre() {
		x := full(kind)
		s, e := tx.Encode(x)
		kept := strings.Clone(s)
		if e != api.OK {
			t.Fatal(e)
		}
		for _, own := range textsOf(x) {
			if standsIn(s, own) || standsIn(own, s) {
				t.Errorf("kind %d: the bytes share memory with %q", kind, own)
			}
		}
		got, _ := tx.Decode(s)
		for _, own := range textsOf(got) {
			if standsIn(own, s) {
				t.Errorf("kind %d: %q stands in the argument's memory", kind, own)
			}
		}
		for i := range x.Access {
			clear(x.Access[i].Keys)
		}
		clear(x.Access)
		clear(x.Auths)
		if s != kept {
			t.Errorf("kind %d: the bytes change with the transaction", kind)
		}
		want := copyOf(got)
		again, _ := tx.Decode(s)
		for i := range again.Access {
			clear(again.Access[i].Keys)
			_ = append(again.Access[i].Keys, "changed")
		}
		clear(again.Access)
		clear(again.Auths)
		if !same(got, want) {
			t.Errorf("kind %d: two answers share memory", kind)
		}
	}
}

// No two lists of an answer stand in the same memory, what is behind their ends too.
func TestListsOfAnAnswerShareNothing(t *testing.T) {
	held := 0
	samples(3, func(_ *rand.Rand, x api.Tx) {
		s, _ := tx.Encode(x)
		got, _ := tx.Decode(s)
		at := map[*string]int{}
		for _, a := range got.Access {
			l := a.Keys[:cap(a.Keys)]
			for i := range l {
				at[&l[i]]++
				held++
			}
		}
		for p, n := range at {
			if n > 1 {
				t.Errorf("%d keys stand where %q does", n, *p)
			}
		}
	})
	if held < 1000 {
		t.Errorf("only %d keys are held", held)
	}
}

// No call changes an argument, and each tells the same again.
func TestArgumentsStayAndAnswersToo(t *testing.T) {
	samples(4, func(r *rand.Rand, x api.Tx) {
		if r.Intn(2) == 0 {
			spoil(r, &x)
		}
		before := copyOf(x)
		e1 := tx.Check(x)
		s, e2 := tx.Encode(x)
		got, e3 := tx.Decode(s)
		alike := tx.Same(x, got)
		if !reflect.DeepEqual(x, before) {
			t.Fatalf("%v is changed to %v", brief(before), brief(x))
		}
		f1 := tx.Check(before)
		again, f2 := tx.Encode(before)
		and, f3 := tx.Decode(again)
		if s != again || !same(got, and) || alike != tx.Same(before, and) || e1 != f1 || e2 != f2 || e3 != f3 {
			t.Errorf("%v is told otherwise the second time", brief(x))
		}
	})
	// What is behind a list's end is neither read nor changed.
	l, own := append(pairs(1), api.Access{Addr: "none"}), append(auths(1), api.Auth{Y: 9})
	x := with(few(4), func(t *api.Tx) {})
	x.Access, x.Auths = l[:1], own[:1]
	s, e := tx.Encode(x)
	if got, found := tx.Decode(s); e != api.OK || found != api.OK || !same(got, x) || l[1].Addr != "none" || own[1].Y != 9 {
		t.Error(got, e, found, l, own)
	}
}

// nil or empty is never asked.
func TestListsWithoutThingsAreNilOrEmpty(t *testing.T) {
	for _, access := range [][]api.Access{nil, {}} {
		for _, none := range [][]api.Auth{nil, {}} {
			for _, kind := range kindsAre() {
				x := few(kind)
				want, _ := tx.Encode(x)
				x.Access = access
				if kind != api.TxCode {
					x.Auths = none
				}
				if e := tx.Check(x); e != api.OK {
					t.Errorf("kind %d: %v", kind, e)
				}
				if s, e := tx.Encode(x); s != want || e != api.OK {
					t.Errorf("kind %d: %x, %v", kind, s, e)
				}
			}
			if e := tx.Check(api.Tx{Kind: 4, To: ab(20), Access: access, Auths: none}); e != api.ErrForm {
				t.Error(e)
			}
		}
	}
	x := few(2)
	x.Access = pairs(1)
	want, _ := tx.Encode(x)
	x.Access[0].Keys = []string{}
	if s, e := tx.Encode(x); s != want || e != api.OK {
		t.Errorf("%x, %v", s, e)
	}
}

// Whatever they are given, all calls end, and tell nothing beside an error.
func TestAllEndsAtAllArguments(t *testing.T) {
	huge := pairs(1 << 16)
	for i := range huge {
		huge[i].Keys = keys(3)
	}
	for _, kind := range append(kindsAre(), -1, 3, math.MaxInt) {
		for _, x := range []api.Tx{
			{Kind: kind, Access: huge},
			{Kind: kind, Auths: auths(1 << 16)},
			{Kind: kind, Data: ab(1 << 24)},
			{Kind: kind, To: ab(1 << 20), Source: ab(1 << 20), From: ab(1 << 20)},
			{Kind: kind, Chain: math.MaxUint64, Y: math.MaxUint64, Nonce: math.MaxUint64, Gas: math.MaxUint64},
		} {
			e := holdCheck(t, x)
			if s, found := tx.Encode(x); e == api.OK || found != e || s != "" {
				t.Errorf("kind %d: %x, %v, %v", kind, s, found, e)
			}
			if !tx.Same(x, x) {
				t.Errorf("kind %d: it is not as it is", kind)
			}
		}
	}
	for b := range 256 {
		for _, n := range []int{1, 2, 3, 100, 65535, 65536, 65537, 65538, 1 << 20} {
			s := strings.Repeat(string([]byte{byte(b)}), n)
			holdDecode(t, s)
			for _, kind := range kindsAre() {
				holdDecode(t, headOf(kind)+s)
			}
		}
	}
	if _, e := unrlp.Decode(strings.Repeat("\xc0", 65537)); e != api.ErrLong {
		t.Error(e)
	}
}
