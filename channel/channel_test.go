package channel_test

import (
	"math/rand"
	"slices"
	"strings"
	"testing"
	"unsafe"

	"rescript/api"
	"rescript/channel"
	"rescript/frame"
)

// brief keeps what a failed test tells short.
func brief(l ...api.Frame) []api.Frame {
	var told []api.Frame
	for _, f := range l[:min(len(l), 40)] {
		f.ID, f.Data = f.ID[:min(len(f.ID), 20)], f.Data[:min(len(f.Data), 4)]
		told = append(told, f)
	}
	return told
}

// behind is what stands in the memory behind a row.
var behind = api.Frame{ID: "behind the row", Number: -7, Data: "stays"}

// spacious is the row with room behind it, in which that frame stands.
func spacious(l []api.Frame) []api.Frame {
	return append(slices.Clone(l), behind, behind)[:len(l)]
}

// stays tells whether a spacious row, and what stands behind it, is as it was.
func stays(given, l []api.Frame) bool {
	return slices.Equal(given, l) && slices.Equal(given[len(l):len(l)+2], []api.Frame{behind, behind})
}

func holdSplit(t *testing.T, id, data string, size int) {
	t.Helper()
	want, e := splitOf(id, data, size)
	if got, found := channel.Split(id, data, size); !slices.Equal(got, want) || found != e {
		t.Errorf("Split(%q, of %d bytes, %d) = %v, %v, want %v, %v", id[:min(len(id), 20)], len(data), size, brief(got...), found, brief(want...), e)
	}
}

// hold holds the calls that take a row alone.
func hold(t *testing.T, l []api.Frame) {
	t.Helper()
	given := spacious(l)
	want, e := joinOf(l)
	if got, found := channel.Join(given); got != want || found != e {
		t.Errorf("Join(%v) = %.40q, %v, want %.40q, %v", brief(l...), got, found, want, e)
	}
	if got, want := channel.Ready(given), readyOf(l); got != want {
		t.Errorf("Ready(%v) = %v", brief(l...), got)
	}
	if !stays(given, l) {
		t.Errorf("Join or Ready changed %v", brief(l...))
	}
}

// holdAdd holds Add, and tells what it tells.
func holdAdd(t *testing.T, l []api.Frame, f api.Frame) ([]api.Frame, api.Errno) {
	t.Helper()
	given := spacious(l)
	want, e := addOf(l, f)
	got, found := channel.Add(given, f)
	if !slices.Equal(got, want) || found != e {
		t.Errorf("Add(%v, %v) = %v, %v, want %v, %v", brief(l...), brief(f), brief(got...), found, brief(want...), e)
	}
	if found != api.OK && !slices.Equal(got, l) {
		t.Errorf("Add(%v, %v), that refuses, tells another row: %v", brief(l...), brief(f), brief(got...))
	}
	told := slices.Clone(got)
	for i := range got[:cap(got)] {
		got[:cap(got)][i] = api.Frame{}
	}
	if !stays(given, l) {
		t.Errorf("Add(%v, %v), or who changes its answer, changed the row", brief(l...), brief(f))
	}
	return told, found
}

// refused holds that Add tells this error, and the row.
func refused(t *testing.T, l []api.Frame, f api.Frame, e api.Errno) {
	t.Helper()
	if _, found := holdAdd(t, l, f); found != e {
		t.Errorf("Add(%v, %v) tells %v, want %v", brief(l...), brief(f), found, e)
	}
}

// taken holds that Add takes a frame, and tells this row.
func taken(t *testing.T, l []api.Frame, f api.Frame, want []api.Frame) {
	t.Helper()
	if got, e := holdAdd(t, l, f); !slices.Equal(got, want) || e != api.OK {
		t.Errorf("Add(%v, %v) = %v, %v, want %v", brief(l...), brief(f), brief(got...), e, brief(want...))
	}
}

// joined holds that Join tells this, and Ready what goes with it.
func joined(t *testing.T, l []api.Frame, want string, e api.Errno) {
	t.Helper()
	hold(t, l)
	if got, found := channel.Join(l); got != want || found != e {
		t.Errorf("Join(%v) = %.40q, %v, want %.40q, %v", brief(l...), got, found, want, e)
	}
	if got := channel.Ready(l); got != (e == api.OK) {
		t.Errorf("Ready(%v) = %v", brief(l...), got)
	}
}

func TestExample(t *testing.T) {
	want := []api.Frame{{ID: id, Number: 0, Data: "abc"}, {ID: id, Number: 1, Data: "def"}, {ID: id, Number: 2, Data: "g", Last: true}}
	if l, e := channel.Split(id, "abcdefg", 3); !slices.Equal(l, want) || e != api.OK {
		t.Errorf("seven bytes, by 3: %v, %v", l, e)
	}
	joined(t, want, "abcdefg", api.OK)
}

// The frames are put down here by hand.
func TestSplitByHand(t *testing.T) {
	for _, x := range []struct {
		data string
		size int
		want []api.Frame
	}{
		{"", 1, []api.Frame{{ID: id, Last: true}}},
		{"", 4096, []api.Frame{{ID: id, Last: true}}},
		{"a", 1, []api.Frame{{ID: id, Data: "a", Last: true}}},
		{"a", 4096, []api.Frame{{ID: id, Data: "a", Last: true}}},
		{"ab", 1, []api.Frame{{ID: id, Data: "a"}, {ID: id, Number: 1, Data: "b", Last: true}}},
		{"abcde", 3, []api.Frame{{ID: id, Data: "abc"}, {ID: id, Number: 1, Data: "de", Last: true}}},
		{"abcdef", 3, []api.Frame{{ID: id, Data: "abc"}, {ID: id, Number: 1, Data: "def", Last: true}}},
		{"\x00\x00", 2, []api.Frame{{ID: id, Data: "\x00\x00", Last: true}}},
		{"\x00\x00\x00", 2, []api.Frame{{ID: id, Data: "\x00\x00"}, {ID: id, Number: 1, Data: "\x00", Last: true}}},
	} {
		if l, e := channel.Split(id, x.data, x.size); !slices.Equal(l, x.want) || e != api.OK {
			t.Errorf("Split(%q, %d) = %v, %v, want %v", x.data, x.size, l, e, x.want)
		}
	}
}

// Data that the size divides, and one byte less and more: in one frame, in some, in 32 and in 33.
func TestSplitAtTheEdges(t *testing.T) {
	for _, size := range []int{1, 2, 3, 7, 255, 256, 1000, 4095, 4096} {
		for _, many := range []int{0, 1, 2, 3, 16, 31, 32, 33} {
			for _, n := range []int{many*size - 1, many * size, many*size + 1} {
				if n < 0 {
					continue
				}
				data := datum(n)
				holdSplit(t, id, data, size)
				l, e := channel.Split(id, data, size)
				if n > 32*size {
					if len(l) != 0 || e != api.ErrLong {
						t.Errorf("%d bytes by %d: %d frames, %v", n, size, len(l), e)
					}
					continue
				}
				if len(l) != max(1, (n+size-1)/size) || e != api.OK {
					t.Errorf("%d bytes by %d: %d frames, %v", n, size, len(l), e)
				}
				joined(t, l, data, api.OK)
			}
		}
	}
}

// Each frame that is cut may be a frame, and is one of what was heard.
func TestWhatIsCutMayBe(t *testing.T) {
	for n := range 200 {
		for _, size := range []int{7, 8, 64, 199, 200, 4096} {
			l, e := channel.Split(other, datum(n), size)
			if e != api.OK {
				t.Errorf("%d bytes by %d: %v", n, size, e)
			}
			for i, f := range l {
				if frame.Check(f) != api.OK || f.Number != i || f.ID != other || f.Last != (i+1 == len(l)) {
					t.Errorf("%d bytes by %d: at %d stands %v", n, size, i, brief(f))
				}
			}
			joined(t, l, datum(n), api.OK)
		}
	}
}

// What is wrong is told in this order: the size, the id, the data.
func TestSplitsErrors(t *testing.T) {
	wrongSizes := []int{least, least + 1, -4096, -2, -1, 0, 4097, 4098, 8192, 65536, 1 << 31, 1 << 32, 1<<32 + 1, 1<<59 + 1, most - 1, most}
	wrongIDs := []string{"", id[:1], id[:15], id + "g", id + id, strings.Repeat("x", 65552)}
	long := datum(32*4096 + 1)
	for _, size := range wrongSizes {
		for _, name := range append(wrongIDs, id) {
			for _, data := range []string{"", "a", long} {
				if l, e := channel.Split(name, data, size); len(l) != 0 || e != api.ErrArg {
					t.Errorf("Split of %d bytes ID, %d Data, %d: %d frames, %v", len(name), len(data), size, len(l), e)
				}
				holdSplit(t, name, data, size)
			}
		}
	}
	for _, size := range []int{1, 2, 4095, 4096} {
		for _, name := range wrongIDs {
			for _, data := range []string{"", "a", long} {
				if l, e := channel.Split(name, data, size); len(l) != 0 || e != api.ErrForm {
					t.Errorf("Split of %d bytes ID, %d Data, %d: %d frames, %v", len(name), len(data), size, len(l), e)
				}
				holdSplit(t, name, data, size)
			}
		}
		if l, e := channel.Split(id, long, size); len(l) != 0 || e != api.ErrLong {
			t.Errorf("Split of %d bytes by %d: %d frames, %v", len(long), size, len(l), e)
		}
	}
	for _, name := range []string{strings.Repeat("\x00", 16), strings.Repeat("\xff", 16), other} {
		holdSplit(t, name, "abcdefg", 3)
		if l, e := channel.Split(name, "abcdefg", 3); len(l) != 3 || e != api.OK || l[0].ID != name {
			t.Errorf("Split(%q) = %v, %v", name, l, e)
		}
	}
}

// All sizes, of data that is some of each of them long.
func TestAllSizes(t *testing.T) {
	data := datum(33 * 4097)
	for size := -3; size <= 4100; size++ {
		holdSplit(t, id, "", size)
		holdSplit(t, id, data[:4096], size)
		for _, many := range []int{1, 2, 32} {
			n := max(0, many*size)
			holdSplit(t, id, data[:n], size)
			holdSplit(t, id, data[:n+1], size)
		}
	}
}

func TestNothingWasHeard(t *testing.T) {
	for _, l := range [][]api.Frame{nil, {}} {
		joined(t, l, "", api.ErrShort)
		for n := range 32 {
			taken(t, l, part(n), parts(n))
			taken(t, l, end(n), []api.Frame{end(n)})
			taken(t, l, foreign(end(n)), []api.Frame{foreign(end(n))})
		}
		for _, n := range []int{32, 33, 255, 256, 4096, 65534, 65535} {
			refused(t, l, part(n), api.ErrLong)
			refused(t, l, end(n), api.ErrLong)
		}
	}
}

// A frame is put at its place: ahead of all, between any two, and behind all.
func TestAFrameAtItsPlace(t *testing.T) {
	taken(t, parts(1, 2), part(0), parts(0, 1, 2))
	taken(t, parts(0, 2), part(1), parts(0, 1, 2))
	taken(t, parts(0, 1), part(2), parts(0, 1, 2))
	taken(t, parts(0, 1), end(2), upTo(2))
	taken(t, parts(0, 1), part(31), parts(0, 1, 31))
	taken(t, parts(0, 1), end(31), append(parts(0, 1), end(31)))
	taken(t, append(parts(3), end(31)), part(30), append(parts(3, 30), end(31)))
	taken(t, []api.Frame{end(1)}, part(0), upTo(1))
	for number := range 32 {
		all := upTo(31)
		missing := slices.Delete(slices.Clone(all), number, number+1)
		joined(t, missing, "", api.ErrShort)
		taken(t, missing, all[number], all)
	}
}

func TestAllOf32(t *testing.T) {
	data := datum(32 * 3)
	all, e := channel.Split(id, data, 3)
	if len(all) != 32 || e != api.OK {
		t.Fatalf("%d frames, %v", len(all), e)
	}
	joined(t, all, data, api.OK)
	// 32 are there, and the Last one behind the others is none: a 33rd has no number.
	open := slices.Clone(all)
	open[31].Last = false
	joined(t, open, "", api.ErrShort)
	refused(t, open, part(32), api.ErrLong)
	refused(t, open, end(32), api.ErrLong)
	refused(t, all, part(32), api.ErrOrder)
	refused(t, all, end(31), api.ErrTwice)
}

// Each fault that Add tells, alone, and with those that are told behind it.
func TestAddsErrors(t *testing.T) {
	heard := parts(2, 4)
	closed := append(parts(2), end(4))
	none := slices.Insert(parts(2, 4), 1, api.Frame{ID: id[:15]})
	for e, l := range noFrames() {
		for _, f := range l {
			for _, row := range [][]api.Frame{nil, heard, closed, none, parts(4, 2)} {
				refused(t, row, f, e)
			}
		}
	}
	for i, x := range []struct {
		l []api.Frame
		f api.Frame
		e api.Errno
	}{
		// The row is none, and the frame is of another ID, there, behind the Last one, ahead of
		// others as the Last one, of too high a number, or may be.
		{none, part(3), api.ErrForm},
		{none, foreign(part(3)), api.ErrForm},
		{none, part(2), api.ErrForm},
		{none, part(32), api.ErrForm},
		{none, end(1), api.ErrForm},
		{slices.Insert(slices.Clone(closed), 0, part(9)), part(5), api.ErrForm},
		{parts(4, 2), part(2), api.ErrForm},
		{parts(2, 2), part(2), api.ErrForm},
		{[]api.Frame{end(0), part(1)}, part(2), api.ErrForm},
		{[]api.Frame{part(0), foreign(part(1))}, part(2), api.ErrForm},
		{[]api.Frame{foreign(part(0)), part(1)}, part(2), api.ErrForm},
		// Another ID.
		{heard, foreign(part(3)), api.ErrArg},
		{heard, foreign(part(5)), api.ErrArg},
		{heard, foreign(part(0)), api.ErrArg},
		{heard, foreign(part(2)), api.ErrArg},
		{heard, foreign(end(3)), api.ErrArg},
		{heard, foreign(part(32)), api.ErrArg},
		{heard, foreign(part(65535)), api.ErrArg},
		{closed, foreign(part(4)), api.ErrArg},
		{closed, foreign(part(5)), api.ErrArg},
		{closed, foreign(end(40)), api.ErrArg},
		// One of its Number is there.
		{heard, part(2), api.ErrTwice},
		{heard, part(4), api.ErrTwice},
		{heard, end(2), api.ErrTwice},
		{heard, end(4), api.ErrTwice},
		{closed, part(4), api.ErrTwice},
		{closed, end(4), api.ErrTwice},
		{closed, end(2), api.ErrTwice},
		{parts(0, 40), part(40), api.ErrTwice},
		{parts(0, 40), end(40), api.ErrTwice},
		{parts(65535), part(65535), api.ErrTwice},
		// It is behind a Last one, or Last, and one behind it is there.
		{closed, part(5), api.ErrOrder},
		{closed, end(5), api.ErrOrder},
		{closed, end(3), api.ErrOrder},
		{closed, end(0), api.ErrOrder},
		{closed, part(32), api.ErrOrder},
		{closed, end(65535), api.ErrOrder},
		{heard, end(0), api.ErrOrder},
		{heard, end(3), api.ErrOrder},
		{[]api.Frame{end(0)}, part(1), api.ErrOrder},
		{[]api.Frame{end(0)}, end(1), api.ErrOrder},
		{[]api.Frame{end(1)}, end(0), api.ErrOrder},
		{parts(1), end(0), api.ErrOrder},
		{parts(0, 40), end(39), api.ErrOrder},
		{[]api.Frame{end(40)}, part(41), api.ErrOrder},
		// Its Number is above 31.
		{heard, part(32), api.ErrLong},
		{heard, end(32), api.ErrLong},
		{heard, part(65535), api.ErrLong},
		{heard, end(65535), api.ErrLong},
		{parts(0, 40), part(39), api.ErrLong},
		{parts(0, 40), part(41), api.ErrLong},
		{parts(0, 40), end(41), api.ErrLong},
		{[]api.Frame{end(40)}, part(32), api.ErrLong},
	} {
		if got, e := channel.Add(x.l, x.f); e != x.e || !slices.Equal(got, x.l) {
			t.Errorf("%d: Add(%v, %v) = %v, %v, want %v", i, brief(x.l...), brief(x.f), brief(got...), e, x.e)
		}
		refused(t, x.l, x.f, x.e)
	}
}

// A row that is nothing that was heard is told by Add and Join, and is not Ready: whatever is
// wrong with it, wherever.
func TestRowsThatWereNotHeard(t *testing.T) {
	var wrong [][]api.Frame
	for _, l := range noFrames() {
		for _, f := range l {
			for at := range 4 {
				wrong = append(wrong, slices.Insert(upTo(2), at, f))
			}
			wrong = append(wrong, []api.Frame{f})
		}
	}
	for at := range 5 {
		for _, change := range []func(*api.Frame){
			func(f *api.Frame) { f.ID = other },
			func(f *api.Frame) { f.ID = strings.ToUpper(id) },
			func(f *api.Frame) { f.Number = (at + 2) % 5 },
			func(f *api.Frame) { f.Number = (at + 4) % 5 },
		} {
			l := upTo(4)
			change(&l[at])
			wrong = append(wrong, l)
		}
	}
	for at := range 4 {
		l := upTo(4)
		l[at].Last = true
		wrong = append(wrong, l)
	}
	wrong = append(wrong,
		parts(0, 0),
		parts(1, 0),
		parts(0, 1, 1),
		parts(0, 2, 1),
		parts(2, 0, 1),
		[]api.Frame{end(0), end(0)},
		[]api.Frame{end(0), end(1)},
		[]api.Frame{end(0), part(1)},
		[]api.Frame{end(1), part(0)},
		[]api.Frame{part(0), end(1), part(2)},
		[]api.Frame{part(0), end(1), end(2)},
		[]api.Frame{part(0), end(0)},
		[]api.Frame{part(0), foreign(end(1))},
		[]api.Frame{foreign(part(0)), end(1)},
	)
	for _, l := range wrong {
		joined(t, l, "", api.ErrForm)
		for _, f := range []api.Frame{part(0), part(9), end(9), foreign(part(0)), part(31), part(32), end(65535)} {
			refused(t, l, f, api.ErrForm)
		}
	}
}

// What was heard may have any numbers that a frame may have: only Add asks that they are below 32.
func TestHighNumbers(t *testing.T) {
	joined(t, parts(65535), "", api.ErrShort)
	joined(t, []api.Frame{end(65535)}, "", api.ErrShort)
	taken(t, parts(40), part(0), parts(0, 40))
	taken(t, parts(31, 65535), part(30), parts(30, 31, 65535))
	taken(t, []api.Frame{end(65535)}, part(31), []api.Frame{part(31), end(65535)})
	taken(t, upTo(40)[1:], part(0), upTo(40))
	for _, n := range []int{31, 32, 33, 40} {
		var all strings.Builder
		for _, f := range upTo(n) {
			all.WriteString(f.Data)
		}
		joined(t, upTo(n), all.String(), api.OK)
	}
	// All numbers there are.
	whole := upTo(65535)
	if s, e := channel.Join(whole); len(s) != 3*65536 || e != api.OK || !channel.Ready(whole) {
		t.Errorf("65536 frames: %d bytes, %v", len(s), e)
	}
	if s, e := channel.Join(whole[1:]); s != "" || e != api.ErrShort || channel.Ready(whole[1:]) {
		t.Errorf("65535 frames: %d bytes, %v", len(s), e)
	}
	if l, e := channel.Add(whole[1:], part(0)); !slices.Equal(l, whole) || e != api.OK {
		t.Errorf("65535 frames, and one: %d, %v", len(l), e)
	}
	if l, e := channel.Add(whole, part(0)); !slices.Equal(l, whole) || e != api.ErrTwice {
		t.Errorf("65536 frames, and one: %d, %v", len(l), e)
	}
}

// Frames that are missing: at the beginning, in the middle, and the Last one.
func TestJoinOfSome(t *testing.T) {
	joined(t, upTo(0), "<a>", api.OK)
	joined(t, upTo(2), "<a><b><c>", api.OK)
	joined(t, []api.Frame{part(1), end(2)}, "", api.ErrShort)
	joined(t, []api.Frame{part(0), end(2)}, "", api.ErrShort)
	joined(t, parts(0, 1), "", api.ErrShort)
	joined(t, parts(0), "", api.ErrShort)
	joined(t, []api.Frame{end(1)}, "", api.ErrShort)
	joined(t, []api.Frame{end(2)}, "", api.ErrShort)
	joined(t, []api.Frame{{ID: id, Last: true}}, "", api.OK)
	joined(t, []api.Frame{{ID: id}, {ID: id, Number: 1, Last: true}}, "", api.OK)
	joined(t, []api.Frame{{ID: id}, {ID: id, Number: 1, Data: "x", Last: true}}, "x", api.OK)
	joined(t, []api.Frame{{ID: id, Data: "x"}, {ID: id, Number: 1, Last: true}}, "x", api.OK)
	joined(t, []api.Frame{{ID: id, Data: datum(4096)}, {ID: id, Number: 1, Data: "\x00", Last: true}}, datum(4096)+"\x00", api.OK)
}

// All rows of at most three of a few frames, with each of them: what is told goes by the sentences.
func TestAllSmallRows(t *testing.T) {
	frames := small()
	seen := map[api.Errno]int{}
	for _, l := range rowsOf(frames, 3) {
		hold(t, l)
		for _, f := range append(frames, part(32), end(31), end(32)) {
			_, e := holdAdd(t, l, f)
			seen[e]++
		}
	}
	for _, e := range []api.Errno{api.OK, api.ErrForm, api.ErrArg, api.ErrTwice, api.ErrOrder, api.ErrLong} {
		if seen[e] < 10 {
			t.Errorf("%v is told %d times: %v", e, seen[e], seen)
		}
	}
}

// All sets of numbers below 7, with and without a Last one, and all frames with each.
func TestAllSetsOfNumbers(t *testing.T) {
	for set := range 1 << 7 {
		var l []api.Frame
		for n := range 7 {
			if set>>n&1 == 1 {
				l = append(l, part(n))
			}
		}
		for range 2 {
			hold(t, l)
			for n := range 9 {
				holdAdd(t, l, part(n))
				holdAdd(t, l, end(n))
			}
			if len(l) > 0 {
				l[len(l)-1].Last = true
			}
		}
	}
}

func TestSampledRows(t *testing.T) {
	r := rand.New(rand.NewSource(15))
	seen := map[api.Errno]int{}
	ready := 0
	for range 20000 {
		l := sampleRow(r)
		hold(t, l)
		if channel.Ready(l) {
			ready++
		}
		for range 4 {
			_, e := holdAdd(t, l, sampleFrame(r))
			seen[e]++
		}
	}
	for _, e := range []api.Errno{api.OK, api.ErrForm, api.ErrArg, api.ErrTwice, api.ErrOrder, api.ErrLong} {
		if seen[e] < 1000 {
			t.Errorf("%v is told %d times: %v", e, seen[e], seen)
		}
	}
	if ready < 500 {
		t.Errorf("%d rows are ready", ready)
	}
}

// hears holds that frames, in whatever order they are heard, are put together: no sooner than
// when all are there, and none is taken twice.
func hears(t *testing.T, frames []api.Frame, order []int, data string) {
	t.Helper()
	var l []api.Frame
	for i, which := range order {
		joined(t, l, "", api.ErrShort)
		longer, e := holdAdd(t, l, frames[which])
		if len(longer) != i+1 || e != api.OK {
			t.Fatalf("in the order %v: %d frames behind the one at %d, %v", order, len(longer), i, e)
		}
		l = longer
		refused(t, l, frames[which], api.ErrTwice)
	}
	if !slices.Equal(l, frames) {
		t.Errorf("in the order %v: %v", order, brief(l...))
	}
	joined(t, l, data, api.OK)
}

// What was cut is put together, in all orders of up to six frames.
func TestAllOrders(t *testing.T) {
	for n := 1; n <= 6; n++ {
		data := datum(3*n - 1)
		frames, e := channel.Split(id, data, 3)
		if len(frames) != n || e != api.OK {
			t.Fatalf("%d frames, %v", len(frames), e)
		}
		for _, order := range orders(n) {
			hears(t, frames, order, data)
		}
	}
}

// And in some orders of up to 32: as they are, in reverse, the Last one first and in the middle,
// and by chance.
func TestSomeOrders(t *testing.T) {
	r := rand.New(rand.NewSource(51))
	for _, n := range []int{1, 2, 7, 31, 32} {
		for _, size := range []int{1, 5, 4096} {
			data := datum((n-1)*size + 1 + r.Intn(size))
			frames, e := channel.Split(id, data, size)
			if len(frames) != n || e != api.OK {
				t.Fatalf("%d frames, %v", len(frames), e)
			}
			var ahead []int
			for i := range n {
				ahead = append(ahead, i)
			}
			reverse := slices.Clone(ahead)
			slices.Reverse(reverse)
			first := slices.Insert(slices.Clone(ahead[:n-1]), 0, n-1)
			middle := slices.Insert(slices.Clone(ahead[:n-1]), n/2*(n-1)/n, n-1)
			for _, order := range [][]int{ahead, reverse, first, middle, r.Perm(n), r.Perm(n)} {
				hears(t, frames, order, data)
			}
		}
	}
}

// What was cut goes through frames' bytes, and is put together again.
func TestThroughBytes(t *testing.T) {
	for _, n := range []int{0, 1, 6, 7, 100, 4096, 32 * 4096} {
		data := datum(n)
		l, e := channel.Split(id, data, max(1, min(4096, n)))
		if e != api.OK {
			t.Fatal(e)
		}
		s, e := frame.Put(l)
		if e != api.OK {
			t.Fatal(e)
		}
		got, e := frame.Get(s)
		if e != api.OK {
			t.Fatal(e)
		}
		joined(t, got, data, api.OK)
	}
}

func TestAnswersShareNothing(t *testing.T) {
	first, _ := channel.Split(id, "abcdefg", 3)
	second, _ := channel.Split(id, "abcdefg", 3)
	clear(first[:cap(first)])
	if third, e := channel.Split(id, "abcdefg", 3); !slices.Equal(second, third) || len(third) != 3 || e != api.OK {
		t.Error("answers of Split share memory")
	}
	for _, f := range []api.Frame{part(1), part(0), part(32), {}} {
		given := spacious(parts(0, 2))
		answer, e := channel.Add(given, f)
		kept := slices.Clone(answer)
		clear(given[:cap(given)])
		if !slices.Equal(answer, kept) {
			t.Errorf("a row that is changed changes what Add told: %v", e)
		}
	}
}

// within tells whether a text stands in another one's memory.
func within(part, s string) bool {
	own, begin := uintptr(unsafe.Pointer(unsafe.StringData(part))), uintptr(unsafe.Pointer(unsafe.StringData(s)))
	return part != "" && begin <= own && own < begin+uintptr(len(s))
}

// Texts that are told stand in memory of their own, not in that of the texts that were handed in.
func TestTextsAreCopied(t *testing.T) {
	name, data := strings.Clone(id), datum(100)
	l, e := channel.Split(name, data, 10)
	if e != api.OK {
		t.Fatal(e)
	}
	for _, f := range l {
		if within(f.ID, name) || within(f.Data, data) {
			t.Errorf("%v stands in the arguments' memory", brief(f))
		}
	}
	longer, e := channel.Add(l[:9], l[9])
	if e != api.OK {
		t.Fatal(e)
	}
	for i, f := range longer {
		if within(f.ID, l[i].ID) || within(f.Data, l[i].Data) {
			t.Errorf("%v stands in the row's memory", brief(f))
		}
	}
	for _, row := range [][]api.Frame{l, upTo(0)} {
		all, e := channel.Join(row)
		if e != api.OK || within(row[0].Data, all) || within(all, row[0].Data) {
			t.Errorf("what is joined stands in the row's memory, %v", e)
		}
	}
}

func TestTheSameCallTellsTheSame(t *testing.T) {
	r := rand.New(rand.NewSource(4))
	for range 50 {
		l, f := sampleRow(r), sampleFrame(r)
		for range 3 {
			hold(t, l)
			holdAdd(t, l, f)
			holdSplit(t, id, "abcdefg", 3)
		}
	}
}

// Whatever it is given, a call ends: also with far more frames, or bytes, than there may be.
func TestAllEndsAtAllArguments(t *testing.T) {
	huge := strings.Repeat("\xab", 1<<24)
	for _, size := range []int{least, 0, 1, 4096, 4097, most} {
		holdSplit(t, huge, huge, size)
		holdSplit(t, id, huge, size)
		holdSplit(t, huge, "", size)
	}
	f := api.Frame{ID: huge, Number: most, Data: huge}
	for _, l := range [][]api.Frame{{f}, slices.Repeat([]api.Frame{f}, 1<<16), parts(slices.Repeat([]int{0}, 1<<18)...)} {
		joined(t, l, "", api.ErrForm)
		refused(t, l, part(0), api.ErrForm)
		refused(t, l, f, api.ErrForm)
	}
}
