package receipt

import (
	"strings"

	"rescript/api"
	"rescript/field"
	"rescript/rlp"
)

const (
	// byList is what a list's first byte is counted from; no kind's head is as great.
	byList = 192

	// longFrom is how many bytes have a head that tells their number by bytes of its own.
	longFrom = 56
)

// headOf is the byte that is ahead of the list of a kind's parts, if there is one.
func headOf(kind int) string {
	if kind == api.TxLegacy {
		return ""
	}
	return string([]byte{byte(kind)})
}

// joined is what put writes of things, one behind the other.
func joined[T any](l []T, put func(T) string) string {
	var all strings.Builder
	for _, one := range l {
		all.WriteString(put(one))
	}
	return all.String()
}

// listed are the bytes of a list whose items have these bytes. A receipt's logs may have more
// than rlp tells of, so that neither their list nor the whole one is left to it.
func listed(own string) string {
	if len(own) < longFrom {
		return string([]byte{byte(byList + len(own))}) + own
	}
	length := field.Number(uint64(len(own))).Bytes
	return string([]byte{byte(byList + longFrom - 1 + len(length))}) + length + own
}

func bytesOf(it api.Item) string {
	// A part, and a log too, is short, and not deep: there is no error.
	s, _ := rlp.Encode(it)
	return s
}

func bytesOfLog(l api.Log) string {
	return bytesOf(field.List(field.Text(l.Addr), field.Texts(l.Topics), field.Text(l.Data)))
}
