package tx_test

import (
	"math/rand"
	"reflect"
	"slices"
	"strings"

	"rescript/api"
)

// ab are bytes of so many.
func ab(n int) string { return strings.Repeat("\xab", n) }

// few is a transaction of a kind, with no more than it must have.
func few(kind int) api.Tx {
	t := api.Tx{Kind: kind}
	switch kind {
	case api.TxCode:
		t.To = ab(20)
		t.Auths = []api.Auth{{Addr: ab(20)}}
	case api.TxDeposit:
		t.Source, t.From = ab(32), ab(20)
	}
	return t
}

// full is a transaction of a kind, with all that it may have, and no two fields alike.
func full(kind int) api.Tx {
	t := api.Tx{Kind: kind}
	all := api.Tx{
		Chain: 10, Nonce: 300, Tip: api.Word{1 << 40}, Price: api.Word{7, 1}, Gas: 21000, To: strings.Repeat("t", 20),
		Value: api.Word{0, 0, 0, 1 << 63}, Data: "\x00data\x00",
		Access: []api.Access{
			{Addr: strings.Repeat("a", 20), Keys: []string{strings.Repeat("k", 32), strings.Repeat("l", 32)}},
			{Addr: strings.Repeat("b", 20)},
		},
		Auths: []api.Auth{
			{Chain: 11, Addr: strings.Repeat("c", 20), Nonce: 12, Y: 1, R: api.Word{13}, S: api.Word{14, 15}},
			{Addr: strings.Repeat("d", 20)},
		},
		Y: 1, R: api.Word{1, 2, 3, 4}, S: api.Word{5, 6, 7, 8},
		Source: strings.Repeat("s", 32), From: strings.Repeat("f", 20), Mint: api.Word{9, 9}, System: true,
	}
	from, to := reflect.ValueOf(all), reflect.ValueOf(&t).Elem()
	for i := range from.NumField() {
		if name := from.Type().Field(i).Name; name != "Kind" && doesName(kind, name) {
			to.Field(i).Set(from.Field(i))
		}
	}
	return copyOf(t)
}

// with is a transaction that was changed.
func with(t api.Tx, change func(t *api.Tx)) api.Tx {
	t = copyOf(t)
	change(&t)
	return t
}

// copyOf is a transaction in memory of its own.
func copyOf(t api.Tx) api.Tx {
	t.Access = slices.Clone(t.Access)
	for i := range t.Access {
		t.Access[i].Keys = slices.Clone(t.Access[i].Keys)
	}
	t.Auths = slices.Clone(t.Auths)
	return t
}

// same tells whether two are alike, nil and empty lists too.
func same(a, b api.Tx) bool { return reflect.DeepEqual(plain(a), plain(b)) }

// plain has nil wherever a list is empty.
func plain(t api.Tx) api.Tx {
	t = copyOf(t)
	if len(t.Access) == 0 {
		t.Access = nil
	}
	for i := range t.Access {
		if len(t.Access[i].Keys) == 0 {
			t.Access[i].Keys = nil
		}
	}
	if len(t.Auths) == 0 {
		t.Auths = nil
	}
	return t
}

// brief keeps what a failed test tells short.
func brief(t api.Tx) api.Tx {
	t.Data, t.Access, t.Auths = t.Data[:min(len(t.Data), 8)], t.Access[:min(len(t.Access), 3)], t.Auths[:min(len(t.Auths), 3)]
	return t
}

func pairs(n int) []api.Access { return slices.Repeat([]api.Access{{Addr: ab(20)}}, n) }

func keys(n int) []string { return slices.Repeat([]string{ab(32)}, n) }

func auths(n int) []api.Auth { return slices.Repeat([]api.Auth{{Addr: ab(20), Y: 1}}, n) }

// Samples: the same in each run.

func sampleText(r *rand.Rand, n int) string {
	b := make([]byte, n)
	for i := range b {
		b[i] = []byte{0, 1, 127, 128, 192, 255, byte(r.Intn(256))}[r.Intn(7)]
	}
	return string(b)
}

func sampleNumber(r *rand.Rand) uint64 {
	return []uint64{0, 0, 1, 127, 128, 255, 256, 1<<64 - 1, r.Uint64(), r.Uint64() >> r.Intn(64)}[r.Intn(10)]
}

func sampleWord(r *rand.Rand) api.Word {
	var w api.Word
	for i := range r.Intn(5) {
		w[i] = sampleNumber(r)
	}
	return w
}

func sampleMany(r *rand.Rand, most int) int {
	return []int{0, 0, 1, 1, 2, 3, r.Intn(most + 1), most}[r.Intn(8)]
}

// sample is a transaction.
func sample(r *rand.Rand, kind int) api.Tx {
	t := few(kind)
	v := reflect.ValueOf(&t).Elem()
	for i := range v.NumField() {
		if !doesName(kind, v.Type().Field(i).Name) || r.Intn(5) == 0 {
			continue
		}
		switch x := v.Field(i).Addr().Interface().(type) {
		case *uint64:
			*x = sampleNumber(r)
		case *api.Word:
			*x = sampleWord(r)
		case *bool:
			*x = r.Intn(2) == 1
		case *[]api.Access:
			*x = sampleAccess(r)
		case *[]api.Auth:
			*x = sampleAuths(r)
		}
	}
	t.Y = uint64(r.Intn(2))
	if kind == api.TxDeposit {
		t.Y, t.Source, t.From = 0, sampleText(r, 32), sampleText(r, 20)
	}
	if kind == api.TxLegacy {
		t.Chain = []uint64{0, 1, 10, 1<<62 - 1, 1 << 62, t.Chain >> 2}[r.Intn(6)]
	}
	if kind == api.TxCode || r.Intn(2) == 0 {
		t.To = sampleText(r, 20)
	}
	t.Data = sampleText(r, []int{0, 1, 1, 2, 55, 56, 300, 4096, r.Intn(4096)}[r.Intn(9)])
	return t
}

func sampleAccess(r *rand.Rand) []api.Access {
	l := make([]api.Access, sampleMany(r, 16))
	for i := range l {
		l[i].Addr = sampleText(r, 20)
		for range sampleMany(r, 16) {
			l[i].Keys = append(l[i].Keys, sampleText(r, 32))
		}
	}
	return l
}

func sampleAuths(r *rand.Rand) []api.Auth {
	l := make([]api.Auth, max(sampleMany(r, 8), 1))
	for i := range l {
		l[i] = api.Auth{Chain: sampleNumber(r), Addr: sampleText(r, 20), Nonce: sampleNumber(r), Y: uint64(r.Intn(2)), R: sampleWord(r), S: sampleWord(r)}
	}
	return l
}

// spoil changes a part of a transaction: it may be none then.
func spoil(r *rand.Rand, t *api.Tx) {
	v := reflect.ValueOf(t).Elem()
	switch x := v.Field(r.Intn(v.NumField())).Addr().Interface().(type) {
	case *int:
		*x = []int{0, 1, 2, 3, 4, 5, 126, 127, -1, 256, 1<<32 + 1}[r.Intn(11)]
	case *uint64:
		*x = []uint64{0, 1, 2, 1 << 62, 1<<62 + 1, 1<<64 - 1}[r.Intn(6)]
	case *api.Word:
		*x = sampleWord(r)
	case *string:
		*x = sampleText(r, []int{0, 1, 19, 20, 21, 31, 32, 33, 4096, 4097}[r.Intn(10)])
	case *bool:
		*x = !*x
	case *[]api.Access:
		*x = sampleAccess(r)
		spoilAccess(r, x)
	case *[]api.Auth:
		*x = sampleAuths(r)
		spoilAuths(r, x)
	}
}

func spoilAccess(r *rand.Rand, l *[]api.Access) {
	if len(*l) == 0 || r.Intn(4) == 0 {
		*l = pairs(r.Intn(19))
		return
	}
	one := &(*l)[r.Intn(len(*l))]
	switch r.Intn(3) {
	case 0:
		one.Addr = sampleText(r, 19+r.Intn(3))
	case 1:
		one.Keys = append(one.Keys, sampleText(r, 31+r.Intn(3)))
	case 2:
		one.Keys = keys(15 + r.Intn(3))
	}
}

func spoilAuths(r *rand.Rand, l *[]api.Auth) {
	one := &(*l)[r.Intn(len(*l))]
	switch r.Intn(3) {
	case 0:
		*l = auths(r.Intn(10))
	case 1:
		one.Addr = sampleText(r, 19+r.Intn(3))
	case 2:
		one.Y = uint64(r.Intn(3))
	}
}

// spoilItem changes an item a little, or one in it.
func spoilItem(r *rand.Rand, it *api.Item) {
	if it.List && len(it.Items) > 0 && r.Intn(5) > 0 {
		spoilItem(r, &it.Items[r.Intn(len(it.Items))])
		return
	}
	if it.List {
		at := r.Intn(len(it.Items) + 1)
		switch r.Intn(4) {
		case 0:
			it.Items = slices.Insert(it.Items, at, api.Item{Bytes: sampleText(r, []int{0, 1, 20, 32}[r.Intn(4)])})
		case 1:
			it.Items = slices.Insert(it.Items, at, api.Item{List: true})
		case 2:
			it.Items = slices.Delete(it.Items, max(at, 1)-1, at)
		case 3:
			*it = api.Item{Bytes: sampleText(r, r.Intn(3))}
		}
		return
	}
	switch r.Intn(6) {
	case 0:
		*it = api.Item{List: true}
	case 1:
		*it = api.Item{List: true, Items: []api.Item{*it}}
	case 2:
		it.Bytes += sampleText(r, 1)
	case 3:
		it.Bytes = "\x00" + it.Bytes
	case 4:
		it.Bytes = it.Bytes[min(len(it.Bytes), 1):]
	case 5:
		it.Bytes = sampleText(r, []int{0, 1, 8, 9, 19, 20, 21, 31, 32, 33, 4097}[r.Intn(11)])
	}
}

// spoilText changes a text a little.
func spoilText(r *rand.Rand, s string) string {
	if s == "" || r.Intn(8) == 0 {
		at := r.Intn(len(s) + 1)
		return s[:at] + sampleText(r, 1) + s[at:]
	}
	at := r.Intn(min(len(s), 1+r.Intn(len(s))))
	out := []byte(s)
	switch r.Intn(5) {
	case 0:
		return s[:at] + s[at+1:]
	case 1:
		return s[:at]
	case 2:
		out[at] ^= 1 << r.Intn(8)
	case 3:
		out[at] = byte(r.Intn(256))
	case 4:
		out[at] += byte(1 - 2*r.Intn(2))
	}
	return string(out)
}

// samples hands on many transactions of all kinds.
func samples(seed int64, each func(r *rand.Rand, t api.Tx)) {
	r := rand.New(rand.NewSource(seed))
	for range 800 {
		for _, kind := range kindsAre() {
			each(r, sample(r, kind))
		}
	}
}
