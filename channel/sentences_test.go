package channel_test

import (
	"bytes"
	"slices"

	"rescript/api"
	"rescript/frame"
)

// The chapter's sentences, a second time. What a frame is, is asked of frame.Check.

func splitOf(id, data string, size int) ([]api.Frame, api.Errno) {
	if !(1 <= size && size <= 4096) {
		return nil, api.ErrArg
	}
	if len(id) != 16 {
		return nil, api.ErrForm
	}
	needed := len(data) / size
	if len(data)%size != 0 || data == "" {
		needed++
	}
	if needed >= 33 {
		return nil, api.ErrLong
	}
	l := make([]api.Frame, needed)
	for i := range l {
		l[i].ID, l[i].Number = id, i
	}
	l[needed-1].Last = true
	for i, part := range slices.Collect(slices.Chunk([]byte(data), size)) {
		l[i].Data = string(part)
	}
	return l, api.OK
}

// heardOf holds each frame against each one behind it.
func heardOf(l []api.Frame) bool {
	for i, f := range l {
		if frame.Check(f) != api.OK {
			return false
		}
		for _, g := range l[i+1:] {
			if f.ID != g.ID || f.Number == g.Number || f.Number > g.Number || f.Last {
				return false
			}
		}
	}
	return true
}

func readyOf(l []api.Frame) bool {
	if !heardOf(l) || len(l) == 0 || !l[len(l)-1].Last {
		return false
	}
	numbers := map[int]int{}
	greatest := 0
	for _, f := range l {
		numbers[f.Number]++
		greatest = max(greatest, f.Number)
	}
	for n := range greatest {
		if numbers[n] == 0 {
			return false
		}
	}
	return true
}

func joinOf(l []api.Frame) (string, api.Errno) {
	if !heardOf(l) {
		return "", api.ErrForm
	}
	if !readyOf(l) {
		return "", api.ErrShort
	}
	var all bytes.Buffer
	for _, f := range l {
		all.WriteString(f.Data)
	}
	return all.String(), api.OK
}

func addOf(l []api.Frame, f api.Frame) ([]api.Frame, api.Errno) {
	if e := frame.Check(f); e != api.OK {
		return l, e
	}
	if !heardOf(l) {
		return l, api.ErrForm
	}
	for _, g := range l {
		if g.ID != f.ID {
			return l, api.ErrArg
		}
	}
	for _, g := range l {
		if g.Number == f.Number {
			return l, api.ErrTwice
		}
	}
	for _, g := range l {
		if g.Last && g.Number < f.Number || f.Last && f.Number < g.Number {
			return l, api.ErrOrder
		}
	}
	if f.Number >= 32 {
		return l, api.ErrLong
	}
	longer := append([]api.Frame{f}, l...)
	slices.SortFunc(longer, func(a, b api.Frame) int { return a.Number - b.Number })
	return longer, api.OK
}
