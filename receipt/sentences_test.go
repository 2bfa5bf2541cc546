package receipt_test

import (
	"math/big"
	"slices"
	"strings"

	"rescript/api"
	"rescript/unrlp"
)

// The chapters' sentences, a second time.

// kindsAre are all of them.
func kindsAre() []int { return []int{0, 1, 2, 4, 126} }

func checkOf(x api.Receipt) api.Errno {
	if !slices.Contains(kindsAre(), x.Kind) {
		return api.ErrKind
	}
	if x.Kind != 126 && x.Full {
		return api.ErrForm
	}
	if !x.Full && (x.Nonce > 0 || x.Version > 0) || x.Full && x.Version > 1 {
		return api.ErrForm
	}
	for _, l := range x.Logs {
		if len(l.Addr) != 20 {
			return api.ErrForm
		}
		for _, topic := range l.Topics {
			if len(topic) != 32 {
				return api.ErrForm
			}
		}
	}
	if len(x.Logs) > 16 {
		return api.ErrLong
	}
	for _, l := range x.Logs {
		if len(l.Topics) > 4 || len(l.Data) > 4096 {
			return api.ErrLong
		}
	}
	return api.OK
}

func formOf(x api.Receipt) int {
	if x.Full && x.Version == 0 {
		return 1
	}
	if x.Full {
		return 2
	}
	return 0
}

// numberOf is a number as an item.
func numberOf(n uint64) api.Item { return text(string(new(big.Int).SetUint64(n).Bytes())) }

func boolOf(v bool) api.Item {
	if v {
		return text("\x01")
	}
	return text("")
}

func logOf(l api.Log) api.Item {
	topics := list()
	for _, topic := range l.Topics {
		topics.Items = append(topics.Items, text(topic))
	}
	return list(text(l.Addr), topics, text(l.Data))
}

// partsOf are all parts as items.
func partsOf(x api.Receipt) []api.Item {
	logs := list()
	for _, l := range x.Logs {
		logs.Items = append(logs.Items, logOf(l))
	}
	l := []api.Item{boolOf(x.Status), numberOf(x.Gas), logs}
	if formOf(x) >= 1 {
		l = append(l, numberOf(x.Nonce))
	}
	if formOf(x) == 2 {
		l = append(l, text("\x01"))
	}
	return l
}

// bytesOf are the bytes of an item, by chapter 4, however many they are.
func bytesOf(it api.Item) string {
	own, by := it.Bytes, 128
	if it.List {
		var all strings.Builder
		for _, in := range it.Items {
			all.WriteString(bytesOf(in))
		}
		own, by = all.String(), 192
	} else if len(own) == 1 && own[0] < 128 {
		return own
	}
	if len(own) < 56 {
		return string([]byte{byte(by + len(own))}) + own
	}
	length := string(big.NewInt(int64(len(own))).Bytes())
	return string([]byte{byte(by + 55 + len(length))}) + length + own
}

// headOf is what is ahead of the list.
func headOf(kind int) string {
	if kind == 0 {
		return ""
	}
	return string([]byte{byte(kind)})
}

// wireOf are the bytes of a kind's head, and of a list of these.
func wireOf(kind int, l ...api.Item) string { return headOf(kind) + bytesOf(list(l...)) }

func encodeOf(x api.Receipt) (string, api.Errno) {
	if e := checkOf(x); e != api.OK {
		return "", e
	}
	return wireOf(x.Kind, partsOf(x)...), api.OK
}

func decodeOf(s string) (api.Receipt, api.Errno) {
	x, e := toldOf(s)
	if e != api.OK {
		return api.Receipt{}, e
	}
	return x, api.OK
}

// toldOf is what bytes tell, whatever it is beside an error.
func toldOf(s string) (x api.Receipt, e api.Errno) {
	if s == "" {
		return x, api.ErrShort
	}
	own := s
	if s[0] < 192 {
		x.Kind, own = int(s[0]), s[1:]
		if x.Kind == 0 || !slices.Contains(kindsAre(), x.Kind) {
			return x, api.ErrKind
		}
	}
	it, e := unrlp.Decode(own)
	if e != api.OK {
		return x, e
	}
	most := 3
	if x.Kind == 126 {
		most = 5
	}
	l, e := readList(it, 3, most)
	if e != api.OK {
		return x, e
	}
	if l[0].List || l[0].Bytes != "" && l[0].Bytes != "\x01" {
		return x, api.ErrForm
	}
	x.Status = l[0].Bytes == "\x01"
	if x.Gas, e = readNumber(l[1]); e != api.OK {
		return x, e
	}
	if x.Logs, e = readLogs(l[2]); e != api.OK {
		return x, e
	}
	if len(l) == 3 {
		return x, api.OK
	}
	x.Full = true
	if x.Nonce, e = readNumber(l[3]); e != api.OK || len(l) == 4 {
		return x, e
	}
	if x.Version, e = readNumber(l[4]); e != api.OK {
		return x, e
	}
	if x.Version != 1 {
		return x, api.ErrForm
	}
	return x, api.OK
}

func readNumber(it api.Item) (uint64, api.Errno) {
	switch {
	case it.List:
		return 0, api.ErrForm
	case len(it.Bytes) > 8:
		return 0, api.ErrLong
	case it.Bytes != "" && it.Bytes[0] == 0:
		return 0, api.ErrSpare
	}
	return new(big.Int).SetBytes([]byte(it.Bytes)).Uint64(), api.OK
}

func readText(it api.Item, length int) (string, api.Errno) {
	if it.List || len(it.Bytes) != length {
		return "", api.ErrForm
	}
	return it.Bytes, api.OK
}

func readList(it api.Item, least, most int) ([]api.Item, api.Errno) {
	switch {
	case !it.List:
		return nil, api.ErrForm
	case len(it.Items) < least:
		return nil, api.ErrShort
	case len(it.Items) > most:
		return nil, api.ErrLong
	}
	return it.Items, api.OK
}

func readLogs(it api.Item) (all []api.Log, e api.Errno) {
	logs, e := readList(it, 0, 16)
	if e != api.OK {
		return nil, e
	}
	for _, it := range logs {
		parts, e := readList(it, 3, 3)
		if e != api.OK {
			return nil, e
		}
		var one api.Log
		if one.Addr, e = readText(parts[0], 20); e != api.OK {
			return nil, e
		}
		topics, e := readList(parts[1], 0, 4)
		if e != api.OK {
			return nil, e
		}
		for _, it := range topics {
			topic, e := readText(it, 32)
			if e != api.OK {
				return nil, e
			}
			one.Topics = append(one.Topics, topic)
		}
		if parts[2].List {
			return nil, api.ErrForm
		}
		if len(parts[2].Bytes) > 4096 {
			return nil, api.ErrLong
		}
		one.Data = parts[2].Bytes
		all = append(all, one)
	}
	return all, api.OK
}
