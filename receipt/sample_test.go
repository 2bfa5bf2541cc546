package receipt_test

import (
	"math/rand"
	"reflect"
	"slices"
	"strings"

	"rescript/api"
)

func text(s string) api.Item { return api.Item{Bytes: s} }

func list(l ...api.Item) api.Item { return api.Item{List: true, Items: l} }

// many is a list of an item so many times.
func many(n int, it api.Item) api.Item { return list(slices.Repeat([]api.Item{it}, n)...) }

// ab are bytes of so many.
func ab(n int) string { return strings.Repeat("\xab", n) }

func logs(n int) []api.Log { return slices.Repeat([]api.Log{{Addr: ab(20)}}, n) }

func topics(n int) []string { return slices.Repeat([]string{ab(32)}, n) }

// plainOf is one of a kind that tells nothing.
func plainOf(kind int) api.Receipt { return api.Receipt{Kind: kind} }

// fullOf is one of a kind with all that it may have, and no two parts alike.
func fullOf(kind int) api.Receipt {
	x := api.Receipt{Kind: kind, Status: true, Gas: 21000, Logs: []api.Log{
		{
			Addr:   strings.Repeat("a", 20),
			Topics: []string{strings.Repeat("t", 32), strings.Repeat("u", 32)},
			Data:   "\x00data\x00",
		},
		{Addr: strings.Repeat("b", 20), Topics: []string{strings.Repeat("v", 32)}, Data: "\x05"},
		{Addr: strings.Repeat("c", 20)},
	}}
	if kind == api.TxDeposit {
		x.Full, x.Nonce, x.Version = true, 300, 1
	}
	return x
}

// formed are those of all kinds, and of all forms that these have, with logs and without.
func formed() []api.Receipt {
	var all []api.Receipt
	for _, kind := range kindsAre() {
		all = append(all, plainOf(kind), fullOf(kind))
	}
	return append(all,
		with(fullOf(126), func(x *api.Receipt) { x.Full, x.Nonce, x.Version = false, 0, 0 }),
		with(fullOf(126), func(x *api.Receipt) { x.Version = 0 }),
		with(fullOf(126), func(x *api.Receipt) { x.Version, x.Nonce = 0, 0 }),
		with(plainOf(126), func(x *api.Receipt) { x.Full = true }),
		with(plainOf(126), func(x *api.Receipt) { x.Full, x.Version = true, 1 }),
	)
}

// with is a receipt that was changed.
func with(x api.Receipt, change func(x *api.Receipt)) api.Receipt {
	x = copyOf(x)
	change(&x)
	return x
}

// copyOf is a receipt in memory of its own.
func copyOf(x api.Receipt) api.Receipt {
	x.Logs = slices.Clone(x.Logs)
	for i := range x.Logs {
		x.Logs[i].Topics = slices.Clone(x.Logs[i].Topics)
	}
	return x
}

// same tells whether two are alike, nil and empty lists too.
func same(a, b api.Receipt) bool { return reflect.DeepEqual(nilled(a), nilled(b)) }

// nilled has nil wherever a list is empty.
func nilled(x api.Receipt) api.Receipt {
	x = copyOf(x)
	if len(x.Logs) == 0 {
		x.Logs = nil
	}
	for i := range x.Logs {
		if len(x.Logs[i].Topics) == 0 {
			x.Logs[i].Topics = nil
		}
	}
	return x
}

// brief keeps what a failed test tells short.
func brief(x api.Receipt) api.Receipt {
	x = copyOf(x)
	x.Logs = x.Logs[:min(len(x.Logs), 3)]
	for i := range x.Logs {
		l := &x.Logs[i]
		l.Topics, l.Data = l.Topics[:min(len(l.Topics), 3)], l.Data[:min(len(l.Data), 8)]
	}
	return x
}

// Samples: the same in each run.

func pick[T any](r *rand.Rand, l ...T) T { return l[r.Intn(len(l))] }

func sampleText(r *rand.Rand, n int) string {
	b := make([]byte, n)
	for i := range b {
		b[i] = pick(r, 0, 1, 127, 128, 192, 255, byte(r.Intn(256)))
	}
	return string(b)
}

func sampleNumber(r *rand.Rand) uint64 {
	return pick(r, 0, 0, 1, 127, 128, 255, 256, 1<<64-1, r.Uint64(), r.Uint64()>>r.Intn(64))
}

// sample is a receipt.
func sample(r *rand.Rand, kind int) api.Receipt {
	x := api.Receipt{Kind: kind, Status: r.Intn(2) == 0, Gas: sampleNumber(r)}
	if kind == api.TxDeposit && r.Intn(3) > 0 {
		x.Full, x.Nonce, x.Version = true, sampleNumber(r), uint64(r.Intn(2))
	}
	for range pick(r, 0, 1, 1, 2, 3, r.Intn(17), 16) {
		l := api.Log{Addr: sampleText(r, 20)}
		for range r.Intn(5) {
			l.Topics = append(l.Topics, sampleText(r, 32))
		}
		// Few have much Data, for so do not all have too many bytes.
		l.Data = sampleText(r, pick(r, 0, 0, 1, 1, 2, 55, 56, 255, 256, 300, r.Intn(4097), 4096))
		x.Logs = append(x.Logs, l)
	}
	return x
}

// samples hands on many receipts of all kinds.
func samples(seed int64, each func(r *rand.Rand, x api.Receipt)) {
	r := rand.New(rand.NewSource(seed))
	for range 400 {
		for _, kind := range append(kindsAre(), api.TxDeposit) {
			each(r, sample(r, kind))
		}
	}
}

// spoil changes a part of a receipt: it may be none then.
func spoil(r *rand.Rand, x *api.Receipt) {
	switch r.Intn(8) {
	case 0:
		x.Kind = pick(r, 0, 1, 2, 3, 4, 5, 126, 127, -1, 256, 1<<32+1)
	case 1:
		x.Status = !x.Status
	case 2:
		x.Gas = sampleNumber(r)
	case 3:
		x.Full = !x.Full
	case 4:
		x.Nonce = sampleNumber(r)
	case 5:
		x.Version = pick[uint64](r, 0, 1, 2, 1<<32+1, 1<<63, 1<<64-1)
	default:
		spoilLogs(r, &x.Logs)
	}
}

func spoilLogs(r *rand.Rand, l *[]api.Log) {
	if len(*l) == 0 || r.Intn(4) == 0 {
		*l = logs(pick(r, 0, 1, 15, 16, 17, 18))
		return
	}
	one := &(*l)[r.Intn(len(*l))]
	switch r.Intn(4) {
	case 0:
		one.Addr = sampleText(r, 19+r.Intn(3))
	case 1:
		one.Topics = append(one.Topics, sampleText(r, 31+r.Intn(3)))
	case 2:
		one.Topics = topics(3 + r.Intn(3))
	case 3:
		one.Data = sampleText(r, 4095+r.Intn(3))
	}
}

// spoilItem changes an item a little, or one in it.
func spoilItem(r *rand.Rand, it *api.Item) {
	if it.List && len(it.Items) > 0 && r.Intn(5) > 0 {
		spoilItem(r, &it.Items[r.Intn(len(it.Items))])
		return
	}
	if it.List {
		at := r.Intn(len(it.Items) + 1)
		switch r.Intn(4) {
		case 0:
			it.Items = slices.Insert(it.Items, at, text(sampleText(r, pick(r, 0, 1, 20, 32))))
		case 1:
			it.Items = slices.Insert(it.Items, at, list())
		case 2:
			it.Items = slices.Delete(it.Items, max(at, 1)-1, at)
		case 3:
			*it = text(sampleText(r, r.Intn(3)))
		}
		return
	}
	switch r.Intn(6) {
	case 0:
		*it = list()
	case 1:
		*it = list(*it)
	case 2:
		it.Bytes += sampleText(r, 1)
	case 3:
		it.Bytes = "\x00" + it.Bytes
	case 4:
		it.Bytes = it.Bytes[min(len(it.Bytes), 1):]
	case 5:
		it.Bytes = sampleText(r, pick(r, 0, 1, 8, 9, 19, 20, 21, 31, 32, 33, 4097))
	}
}

// spoilText changes a text a little.
func spoilText(r *rand.Rand, s string) string {
	if s == "" || r.Intn(8) == 0 {
		at := r.Intn(len(s) + 1)
		return s[:at] + sampleText(r, 1) + s[at:]
	}
	at := r.Intn(min(len(s), 1+r.Intn(len(s))))
	out := []byte(s)
	switch r.Intn(5) {
	case 0:
		return s[:at] + s[at+1:]
	case 1:
		return s[:at]
	case 2:
		out[at] ^= 1 << r.Intn(8)
	case 3:
		out[at] = byte(r.Intn(256))
	case 4:
		out[at] += byte(1 - 2*r.Intn(2))
	}
	return string(out)
}
