package channel

import (
	"cmp"
	"slices"
	"sort"
	"strings"

	"rescript/api"
	"rescript/frame"
)

// row is frames, of which nothing is known yet: each method says what it takes.
type row []api.Frame

// heard tells whether these may be what was heard of a channel.
func (r row) heard() bool {
	for i, f := range r {
		if frame.Check(f) != api.OK || i > 0 && !follows(f, r[i-1]) {
			return false
		}
	}
	return true
}

// follows tells whether a frame may stand behind another one, with none between.
func follows(f, ahead api.Frame) bool {
	return f.ID == ahead.ID && f.Number > ahead.Number && !ahead.Last
}

// whole tells of what was heard whether none is missing: the numbers rise, so the last one is
// as high as there are others only where all lower ones are there.
func (r row) whole() bool {
	last := len(r) - 1
	return last >= 0 && r[last].Last && r[last].Number == last
}

// fault is why frames can't be put together.
func (r row) fault() api.Errno {
	for _, asked := range []struct {
		holds func(row) bool
		e     api.Errno
	}{
		{row.heard, api.ErrForm},
		{row.whole, api.ErrShort},
	} {
		if !asked.holds(r) {
			return asked.e
		}
	}
	return api.OK
}

// with is what was heard, with one more frame in its order; the row itself stays as it is, and
// what is told shares no memory with it.
func (r row) with(f api.Frame) (row, api.Errno) {
	if !r.heard() {
		return nil, api.ErrForm
	}
	at, there := r.place(f.Number)
	switch {
	case len(r) > 0 && r[0].ID != f.ID:
		return nil, api.ErrArg
	case there:
		return nil, api.ErrTwice
	case at > 0 && r[at-1].Last || at < len(r) && f.Last:
		return nil, api.ErrOrder
	case f.Number >= mostFrames:
		return nil, api.ErrLong
	}
	longer := slices.Insert(slices.Clone(r), at, f)
	for i := range longer {
		longer[i].ID, longer[i].Data = strings.Clone(longer[i].ID), strings.Clone(longer[i].Data)
	}
	return longer, api.OK
}

// place is where a frame of a number stands, or would stand, in what was heard, and whether it
// is there.
func (r row) place(number int) (int, bool) {
	return sort.Find(len(r), func(i int) int { return cmp.Compare(number, r[i].Number) })
}
