package frame_test

import (
	"encoding/binary"

	"rescript/api"
)

// The chapter's sentences, a second time.

func checkOf(f api.Frame) api.Errno {
	if len(f.ID) != 16 {
		return api.ErrForm
	}
	if f.Number < 0 || f.Number >= 65536 {
		return api.ErrForm
	}
	if len(f.Data) >= 4097 {
		return api.ErrLong
	}
	return api.OK
}

func oneOf(f api.Frame) (string, api.Errno) {
	if e := checkOf(f); e != api.OK {
		return "", e
	}
	b := []byte(f.ID)
	b = binary.BigEndian.AppendUint16(b, uint16(f.Number))
	b = binary.BigEndian.AppendUint32(b, uint32(len(f.Data)))
	b = append(b, f.Data...)
	if f.Last {
		return string(append(b, 1)), api.OK
	}
	return string(append(b, 0)), api.OK
}

func putOf(l []api.Frame) (string, api.Errno) {
	if len(l) < 1 {
		return "", api.ErrForm
	}
	if len(l) >= 33 {
		return "", api.ErrLong
	}
	for _, f := range l {
		if e := checkOf(f); e != api.OK {
			return "", e
		}
	}
	s := "\x00"
	for _, f := range l {
		one, _ := oneOf(f)
		s += one
	}
	return s, api.OK
}

// told is what Next tells.
type told struct {
	f   api.Frame
	end int
	e   api.Errno
}

func nextOf(s string, at int) told {
	if !(0 <= at && at <= len(s)) {
		return told{e: api.ErrArg}
	}
	b := []byte(s)[at:]
	if len(b) <= 21 {
		return told{e: api.ErrShort}
	}
	n := binary.BigEndian.Uint32(b[18:])
	if n >= 4097 {
		return told{e: api.ErrLong}
	}
	if len(b) < 23+int(n) {
		return told{e: api.ErrShort}
	}
	f := api.Frame{ID: string(b[:16]), Number: int(binary.BigEndian.Uint16(b[16:])), Data: string(b[22 : 22+n])}
	switch b[22+n] {
	case 0:
	case 1:
		f.Last = true
	default:
		return told{e: api.ErrForm}
	}
	return told{f, at + 23 + int(n), api.OK}
}

func getOf(s string) ([]api.Frame, api.Errno) {
	if len(s) < 1 {
		return nil, api.ErrShort
	}
	if s[0] >= 1 {
		return nil, api.ErrKind
	}
	if len(s) == 1 {
		return nil, api.ErrShort
	}
	var l []api.Frame
	for at := 1; at != len(s); {
		if len(l) == 32 {
			return nil, api.ErrLong
		}
		x := nextOf(s, at)
		if x.e != api.OK {
			return nil, x.e
		}
		l, at = append(l, x.f), x.end
	}
	return l, api.OK
}
