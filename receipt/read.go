package receipt

import (
	"errors"

	"rescript/api"
	"rescript/field"
	"rescript/unrlp"
)

// fault is what is wrong with a part; it wraps the number that is told of it.
type fault struct {
	part string
	e    api.Errno
}

func (f fault) Error() string { return f.part + ": " + f.e.Error() }

func (f fault) Unwrap() error { return f.e }

// numberOf is the number that an error wraps; where nothing is wrong there is none.
func numberOf(err error) api.Errno {
	var e api.Errno
	if !errors.As(err, &e) {
		return api.OK
	}
	return e
}

// reader reads parts from the left: behind the first one that is wrong it reads none.
type reader struct {
	wrong error
}

// read is what get tells of a part.
func read[F, T any](r *reader, part string, from F, get func(F) (T, api.Errno)) T {
	if r.wrong != nil {
		var none T
		return none
	}
	got, e := get(from)
	if e != api.OK {
		r.wrong = fault{part, e}
	}
	return got
}

// readEach is what get tells of things, one by one.
func readEach[T any](l []api.Item, get func(api.Item) T) []T {
	all := make([]T, len(l))
	for i, it := range l {
		all[i] = get(it)
	}
	return all
}

func (r *reader) receipt(s string) api.Receipt {
	x := api.Receipt{Kind: read(r, "head", s, kindOf)}
	own := read(r, "bytes", s[len(headOf(x.Kind)):], unrlp.Decode)
	l := r.list("receipt", own, plainParts, mostParts(x.Kind))
	if r.wrong != nil {
		return api.Receipt{}
	}
	x.Status = read(r, "status", l[0], field.GetBool)
	x.Gas = read(r, "gas", l[1], field.GetNumber)
	x.Logs = readEach(r.list("logs", l[2], 0, mostLogs), r.log)
	more := l[plainParts:]
	x.Full = len(more) > 0
	if len(more) > 0 {
		x.Nonce = read(r, "nonce", more[0], field.GetNumber)
	}
	if len(more) > 1 {
		x.Version = read(r, "version", more[1], getVersion)
	}
	return x
}

func (r *reader) log(it api.Item) api.Log {
	l := r.list("log", it, logParts, logParts)
	if r.wrong != nil {
		return api.Log{}
	}
	// Calls are made from the left, in the order of the parts: the first one that is wrong is told.
	return api.Log{
		Addr:   read(r, "address", l[0], getAddr),
		Topics: readEach(r.list("topics", l[1], 0, mostTopics), r.topic),
		Data:   read(r, "data", l[2], getData),
	}
}

func (r *reader) topic(it api.Item) string { return read(r, "topic", it, getTopic) }

func (r *reader) list(part string, it api.Item, least, most int) []api.Item {
	return read(r, part, it, func(it api.Item) ([]api.Item, api.Errno) { return field.GetList(it, least, most) })
}

// kindOf is the kind that the first byte tells.
func kindOf(s string) (int, api.Errno) {
	switch {
	case s == "":
		return 0, api.ErrShort
	case s[0] >= byList:
		return api.TxLegacy, api.OK
	}
	kind := int(s[0])
	if !isKind(kind) || headOf(kind) == "" {
		return 0, api.ErrKind
	}
	return kind, api.OK
}

// mostParts are those of the greatest form that a kind has.
func mostParts(kind int) int {
	if kind == api.TxDeposit {
		return plainParts + mostForm
	}
	return plainParts
}

func getAddr(it api.Item) (string, api.Errno) { return getText(it, addrBytes) }

func getTopic(it api.Item) (string, api.Errno) { return getText(it, topicBytes) }

// getText reads bytes of one length. Whatever else an item is, it is told as of no form.
func getText(it api.Item, length int) (string, api.Errno) {
	s, e := field.GetText(it, length, length)
	if e != api.OK {
		return "", api.ErrForm
	}
	return s, api.OK
}

func getData(it api.Item) (string, api.Errno) { return field.GetText(it, 0, api.MaxData) }

// getVersion reads a version that is told: of version 0 there is no such part.
func getVersion(it api.Item) (uint64, api.Errno) {
	n, e := field.GetNumber(it)
	if e == api.OK && n != mostVersion {
		return 0, api.ErrForm
	}
	return n, e
}
