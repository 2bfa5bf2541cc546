package frame_test

import (
	"slices"
	"strings"
	"testing"
	"unsafe"

	"rescript/api"
	"rescript/frame"
)

// brief keeps what a failed test tells short.
func brief(s string) string { return s[:min(len(s), 64)] }

func briefFrame(f api.Frame) api.Frame {
	f.ID, f.Data = brief(f.ID), brief(f.Data)
	return f
}

func next(s string, at int) told {
	f, end, e := frame.Next(s, at)
	return told{f, end, e}
}

func holdCheck(t *testing.T, f api.Frame) {
	t.Helper()
	if got, want := frame.Check(f), checkOf(f); got != want {
		t.Errorf("Check(%.99v), of %d bytes ID and %d Data, = %v, want %v", briefFrame(f), len(f.ID), len(f.Data), got, want)
	}
}

func holdOne(t *testing.T, f api.Frame) {
	t.Helper()
	want, e := oneOf(f)
	if got, found := frame.One(f); got != want || found != e {
		t.Errorf("One(%.99v) = %x, %v, want %x, %v", briefFrame(f), brief(got), found, brief(want), e)
	}
}

func holdPut(t *testing.T, l []api.Frame) {
	t.Helper()
	want, e := putOf(l)
	if got, found := frame.Put(l); got != want || found != e {
		t.Errorf("Put of %d frames = %d bytes (%x), %v, want %d (%x), %v", len(l), len(got), brief(got), found, len(want), brief(want), e)
	}
}

func holdNext(t *testing.T, s string, at int) {
	t.Helper()
	if got, want := next(s, at), nextOf(s, at); got != want {
		t.Errorf("Next(%x, %d), of %d bytes, = %.99v, want %.99v", brief(s), at, len(s), got, want)
	}
}

func holdGet(t *testing.T, s string) {
	t.Helper()
	want, e := getOf(s)
	got, found := frame.Get(s)
	if !slices.Equal(got, want) || found != e {
		t.Errorf("Get(%x), of %d bytes, = %d frames, %v, want %d, %v", brief(s), len(s), len(got), found, len(want), e)
	}
	// Of whatever is got these are the bytes.
	if found == api.OK {
		if again, e := frame.Put(got); again != s || e != api.OK {
			t.Errorf("Put of what Get(%x) tells = %x, %v", brief(s), brief(again), e)
		}
	}
}

// hold holds all calls that take bytes.
func hold(t *testing.T, s string) {
	t.Helper()
	for _, at := range []int{least, -1, 0, 1, 2, 22, 23, 24, len(s) - 24, len(s) - 23, len(s) - 22, len(s) - 1, len(s), len(s) + 1, most} {
		holdNext(t, s, at)
	}
	holdGet(t, s)
}

func TestExample(t *testing.T) {
	s, e := frame.One(api.Frame{ID: id})
	if len(s) != 23 || e != api.OK {
		t.Errorf("a frame without data has %d bytes, %v", len(s), e)
	}
}

// The bytes are put down here by hand.
func TestBytes(t *testing.T) {
	for _, x := range []struct {
		f    api.Frame
		want string
	}{
		{api.Frame{ID: id}, id + "\x00\x00" + "\x00\x00\x00\x00" + "\x00"},
		{api.Frame{ID: id, Last: true}, id + "\x00\x00" + "\x00\x00\x00\x00" + "\x01"},
		{api.Frame{ID: id, Number: 1}, id + "\x00\x01" + "\x00\x00\x00\x00" + "\x00"},
		{api.Frame{ID: id, Number: 258, Data: "cat"}, id + "\x01\x02" + "\x00\x00\x00\x03" + "cat" + "\x00"},
		{api.Frame{ID: id, Number: 65535, Data: "cat", Last: true}, id + "\xff\xff" + "\x00\x00\x00\x03" + "cat" + "\x01"},
		{api.Frame{ID: id, Number: 65280, Data: "\x01"}, id + "\xff\x00" + "\x00\x00\x00\x01" + "\x01" + "\x00"},
		{api.Frame{ID: id, Number: 255, Data: "\x00", Last: true}, id + "\x00\xff" + "\x00\x00\x00\x01" + "\x00" + "\x01"},
		{api.Frame{ID: ab(16), Data: ab(255)}, ab(16) + "\x00\x00" + "\x00\x00\x00\xff" + ab(255) + "\x00"},
		{api.Frame{ID: ab(16), Data: ab(256)}, ab(16) + "\x00\x00" + "\x00\x00\x01\x00" + ab(256) + "\x00"},
		{api.Frame{ID: ab(16), Data: ab(4095)}, ab(16) + "\x00\x00" + "\x00\x00\x0f\xff" + ab(4095) + "\x00"},
		{api.Frame{ID: ab(16), Data: ab(4096), Last: true}, ab(16) + "\x00\x00" + "\x00\x00\x10\x00" + ab(4096) + "\x01"},
	} {
		if e := frame.Check(x.f); e != api.OK {
			t.Errorf("Check(%.99v) = %v", briefFrame(x.f), e)
		}
		if got, e := frame.One(x.f); got != x.want || e != api.OK {
			t.Errorf("One(%.99v) = %x, %v, want %x", briefFrame(x.f), brief(got), e, brief(x.want))
		}
		if got, want := next(x.want, 0), (told{x.f, len(x.want), api.OK}); got != want {
			t.Errorf("Next(%x, 0) = %.99v, want %.99v", brief(x.want), got, want)
		}
		if got, e := frame.Put([]api.Frame{x.f}); got != "\x00"+x.want || e != api.OK {
			t.Errorf("Put of %.99v = %x, %v", briefFrame(x.f), brief(got), e)
		}
		if got, e := frame.Get("\x00" + x.want); !slices.Equal(got, []api.Frame{x.f}) || e != api.OK {
			t.Errorf("Get(00%x) = %.99v, %v", brief(x.want), got, e)
		}
	}
}

func TestCheckAndOneAtTheEdges(t *testing.T) {
	for _, x := range []struct {
		f api.Frame
		e api.Errno
	}{
		{api.Frame{}, api.ErrForm},
		{api.Frame{ID: ab(1)}, api.ErrForm},
		{api.Frame{ID: ab(15)}, api.ErrForm},
		{api.Frame{ID: ab(16)}, api.OK},
		{api.Frame{ID: ab(17)}, api.ErrForm},
		{api.Frame{ID: ab(32)}, api.ErrForm},
		{api.Frame{ID: ab(65552)}, api.ErrForm},
		{api.Frame{ID: id, Number: least}, api.ErrForm},
		{api.Frame{ID: id, Number: -65536}, api.ErrForm},
		{api.Frame{ID: id, Number: -1}, api.ErrForm},
		{api.Frame{ID: id, Number: 0}, api.OK},
		{api.Frame{ID: id, Number: 65535}, api.OK},
		{api.Frame{ID: id, Number: 65536}, api.ErrForm},
		{api.Frame{ID: id, Number: 65537}, api.ErrForm},
		{api.Frame{ID: id, Number: 1 << 32}, api.ErrForm},
		{api.Frame{ID: id, Number: most}, api.ErrForm},
		{dataOf(0), api.OK},
		{dataOf(4095), api.OK},
		{dataOf(4096), api.OK},
		{dataOf(4097), api.ErrLong},
		{dataOf(65536), api.ErrLong},
		{dataOf(1 << 24), api.ErrLong},
		// Of two faults this one is told first.
		{api.Frame{ID: ab(15), Data: ab(4097)}, api.ErrForm},
		{api.Frame{ID: ab(17), Data: ab(4097)}, api.ErrForm},
		{api.Frame{ID: id, Number: -1, Data: ab(4097)}, api.ErrForm},
		{api.Frame{ID: id, Number: 65536, Data: ab(4097)}, api.ErrForm},
		{api.Frame{ID: "", Number: most, Data: ab(70000)}, api.ErrForm},
	} {
		for _, last := range []bool{false, true} {
			x.f.Last = last
			if e := frame.Check(x.f); e != x.e {
				t.Errorf("Check(%.99v) = %v, want %v", briefFrame(x.f), e, x.e)
			}
			s, e := frame.One(x.f)
			if e != x.e || (e != api.OK && s != "") {
				t.Errorf("One(%.99v) = %x, %v, want %v", briefFrame(x.f), brief(s), e, x.e)
			}
			if e == api.OK && len(s) != 23+len(x.f.Data) {
				t.Errorf("One(%.99v) has %d bytes", briefFrame(x.f), len(s))
			}
			put, e := frame.Put([]api.Frame{x.f})
			if e != x.e || (e != api.OK && put != "") {
				t.Errorf("Put of %.99v = %x, %v, want %v", briefFrame(x.f), brief(put), e, x.e)
			}
		}
	}
}

func TestCheckAndOneBySentences(t *testing.T) {
	for _, f := range append(edges(), spoilt()...) {
		holdCheck(t, f)
		holdOne(t, f)
		holdPut(t, []api.Frame{f})
	}
}

// Each number is written, and read again.
func TestAllNumbers(t *testing.T) {
	for number := range 65536 {
		f := api.Frame{ID: id, Number: number, Data: "x", Last: number%3 == 0}
		holdOne(t, f)
		s, _ := frame.One(f)
		if got := next(s, 0); got != (told{f, 24, api.OK}) {
			t.Errorf("number %d is read as %v", number, got)
		}
	}
}

// Data of each length is written, and read again.
func TestAllLengths(t *testing.T) {
	for n := range 4097 {
		f := dataOf(n)
		holdOne(t, f)
		s, _ := frame.One(f)
		if got := next(s, 0); got != (told{f, 23 + n, api.OK}) {
			t.Errorf("Data of %d bytes is read as %d, up to %d, %v", n, len(got.f.Data), got.end, got.e)
		}
	}
}

func TestHowManyFrames(t *testing.T) {
	for _, x := range []struct {
		n int
		e api.Errno
	}{{0, api.ErrForm}, {1, api.OK}, {2, api.OK}, {31, api.OK}, {32, api.OK}, {33, api.ErrLong}, {34, api.ErrLong}, {64, api.ErrLong}, {65536, api.ErrLong}} {
		l := slices.Repeat([]api.Frame{{ID: id}}, x.n)
		s, e := frame.Put(l)
		if e != x.e || (e != api.OK && s != "") || (e == api.OK && len(s) != 1+23*x.n) {
			t.Errorf("Put of %d frames = %d bytes, %v, want %v", x.n, len(s), e, x.e)
		}
		if x.n == 0 {
			continue
		}
		got, e := frame.Get("\x00" + strings.Repeat(plain(), x.n))
		if e != x.e || (e != api.OK && len(got) != 0) || (e == api.OK && !slices.Equal(got, l)) {
			t.Errorf("Get of %d frames = %d frames, %v, want %v", x.n, len(got), e, x.e)
		}
	}
	for n := range 70 {
		holdPut(t, many(n))
	}
	if s, e := frame.Put([]api.Frame{}); s != "" || e != api.ErrForm {
		t.Errorf("Put of no frames = %x, %v", s, e)
	}
}

// A row may have frames of more than one channel, one many times over, and some behind a last one.
func TestWhateverFramesStandInARow(t *testing.T) {
	for _, l := range [][]api.Frame{
		{{ID: id}, {ID: ab(16)}, {ID: id}},
		{{ID: id, Number: 9}, {ID: id, Number: 8}, {ID: id, Number: 9}},
		{{ID: id, Last: true}, {ID: id, Last: true}, {ID: id, Number: 1}},
		{{ID: id, Data: "a"}, {ID: id, Data: "b"}, {ID: id, Data: ""}, {ID: id, Data: plain()}},
		slices.Repeat([]api.Frame{dataOf(4096)}, 32),
	} {
		holdPut(t, l)
		s, e := frame.Put(l)
		if e != api.OK {
			t.Errorf("Put of %d frames: %v", len(l), e)
		}
		if got, e := frame.Get(s); !slices.Equal(got, l) || e != api.OK {
			t.Errorf("%d frames are got again as %d, %v", len(l), len(got), e)
		}
	}
}

func TestPutKeepsTheOrder(t *testing.T) {
	good := dataOf(3)
	for i, x := range []struct {
		l []api.Frame
		e api.Errno
	}{
		{[]api.Frame{short()}, api.ErrForm},
		{[]api.Frame{long()}, api.ErrLong},
		{[]api.Frame{good, short()}, api.ErrForm},
		{[]api.Frame{good, long()}, api.ErrLong},
		{[]api.Frame{good, misnumbered(), good}, api.ErrForm},
		// The first frame that is wrong is told, whatever is wrong with the next ones.
		{[]api.Frame{short(), long()}, api.ErrForm},
		{[]api.Frame{long(), short()}, api.ErrLong},
		{[]api.Frame{good, good, long(), misnumbered()}, api.ErrLong},
		{[]api.Frame{good, good, misnumbered(), long()}, api.ErrForm},
		{append(many(31), short()), api.ErrForm},
		{append(many(31), long()), api.ErrLong},
		// How many there are is told ahead of what is wrong with one.
		{append([]api.Frame{short()}, many(32)...), api.ErrLong},
		{append(many(32), short()), api.ErrLong},
		{slices.Repeat([]api.Frame{short()}, 33), api.ErrLong},
		{slices.Repeat([]api.Frame{short()}, 32), api.ErrForm},
		{slices.Repeat([]api.Frame{long()}, 32), api.ErrLong},
		{[]api.Frame{}, api.ErrForm},
		{nil, api.ErrForm},
	} {
		if s, e := frame.Put(x.l); s != "" || e != x.e {
			t.Errorf("%d: Put of %d frames = %x, %v, want %v", i, len(x.l), brief(s), e, x.e)
		}
		holdPut(t, x.l)
	}
	for place := range 32 {
		for _, wrong := range []api.Frame{short(), long(), misnumbered()} {
			l := many(32)
			l[place] = wrong
			holdPut(t, l)
			l[31-place] = long()
			holdPut(t, l)
		}
	}
}

func TestNextAtPlaces(t *testing.T) {
	one := bytesOf("\x00\x05", "\x00\x00\x00\x02", "xy", "\x01")
	f := api.Frame{ID: id, Number: 5, Data: "xy", Last: true}
	for _, x := range []struct {
		s    string
		at   int
		want told
	}{
		{"", 0, told{e: api.ErrShort}},
		{"", 1, told{e: api.ErrArg}},
		{"", -1, told{e: api.ErrArg}},
		{"", least, told{e: api.ErrArg}},
		{"", most, told{e: api.ErrArg}},
		{one, 0, told{f, 25, api.OK}},
		{one, 25, told{e: api.ErrShort}},
		{one, 26, told{e: api.ErrArg}},
		{one, -1, told{e: api.ErrArg}},
		{one, -25, told{e: api.ErrArg}},
		{one, least, told{e: api.ErrArg}},
		{one, least + 1, told{e: api.ErrArg}},
		{one, -1 << 32, told{e: api.ErrArg}},
		{one, 1 << 32, told{e: api.ErrArg}},
		{one, most - 1, told{e: api.ErrArg}},
		{one, most, told{e: api.ErrArg}},
		// Behind other bytes, and ahead of others.
		{"\x00" + one, 1, told{f, 26, api.OK}},
		{one + one, 25, told{f, 50, api.OK}},
		{one + one, 0, told{f, 25, api.OK}},
		{one + "\xff", 0, told{f, 25, api.OK}},
		{one + "\xff", 25, told{e: api.ErrShort}},
		{ab(300) + one + ab(300), 300, told{f, 325, api.OK}},
	} {
		if got := next(x.s, x.at); got != x.want {
			t.Errorf("Next(%x, %d) = %v, want %v", brief(x.s), x.at, got, x.want)
		}
	}
	row := "\x00" + one + plain() + one
	for at := -3; at <= len(row)+3; at++ {
		holdNext(t, row, at)
	}
}

// Bytes end within each part of a frame, and ahead of the byte behind Data.
func TestNextOfBytesThatEnd(t *testing.T) {
	for _, f := range []api.Frame{{ID: id}, {ID: id, Number: 300, Data: "some data", Last: true}, dataOf(4096)} {
		s, e := frame.One(f)
		if e != api.OK {
			t.Fatal(e)
		}
		for n := range len(s) {
			if got := next(s[:n], 0); got != (told{e: api.ErrShort}) {
				t.Errorf("Next of %d bytes of %d = %.99v", n, len(s), got)
			}
			if got := next("\x00\xff"+s[:n], 2); got != (told{e: api.ErrShort}) {
				t.Errorf("Next of %d bytes of %d, behind two others, = %.99v", n, len(s), got)
			}
			if got, e := frame.Get("\x00" + s[:n]); len(got) != 0 || e != api.ErrShort {
				t.Errorf("Get of %d bytes of %d = %.99v, %v", n, len(s), got, e)
			}
			if got, e := frame.Get("\x00" + s + s[:n]); n > 0 && (len(got) != 0 || e != api.ErrShort) {
				t.Errorf("Get of a frame, and %d bytes of %d, = %d frames, %v", n, len(s), len(got), e)
			}
		}
	}
}

func TestNextKeepsTheOrder(t *testing.T) {
	for i, x := range []struct {
		s  string
		at int
		e  api.Errno
	}{
		// A place that is none, whatever stands elsewhere.
		{plain(), 24, api.ErrArg},
		{bytesOf("\x00\x00", "\xff\xff\xff\xff", "", ""), -1, api.ErrArg},
		// What is ahead of Data is not all there, though a length would be too great.
		{id + "\x00\x00" + "\xff\xff\xff", 0, api.ErrShort},
		{id + "\x00\x00" + "\x00\x00\x10", 0, api.ErrShort},
		{id + "\x00", 0, api.ErrShort},
		// A length that is too great, in bytes that are too short for it.
		{bytesOf("\x00\x00", "\x00\x00\x10\x01", "", ""), 0, api.ErrLong},
		{bytesOf("\x00\x00", "\x00\x00\x10\x01", ab(4096), ""), 0, api.ErrLong},
		{bytesOf("\x00\x00", "\x00\x00\x10\x01", ab(4097), ""), 0, api.ErrLong},
		{bytesOf("\x00\x00", "\x00\x00\xff\xff", "", "\x00"), 0, api.ErrLong},
		{bytesOf("\x00\x00", "\x00\x01\x00\x00", "", "\x00"), 0, api.ErrLong},
		{bytesOf("\x00\x00", "\x00\x01\x00\x01", "x", "\x00"), 0, api.ErrLong},
		{bytesOf("\x00\x00", "\x01\x00\x00\x00", "", "\x00"), 0, api.ErrLong},
		{bytesOf("\x00\x00", "\x7f\xff\xff\xff", "", ""), 0, api.ErrLong},
		{bytesOf("\x00\x00", "\x80\x00\x00\x00", "", "\x00"), 0, api.ErrLong},
		{bytesOf("\x00\x00", "\x80\x00\x00\x01", "x", "\x00"), 0, api.ErrLong},
		{bytesOf("\x00\x00", "\xff\xff\xff\xff", "", ""), 0, api.ErrLong},
		// One that is, and a byte behind it that is wrong.
		{bytesOf("\x00\x00", "\x00\x00\x10\x01", ab(4097), "\x00"), 0, api.ErrLong},
		{bytesOf("\x00\x00", "\x00\x00\x10\x01", ab(4097), "\x02"), 0, api.ErrLong},
		// Data, or the byte behind it, is not there: what stands there for it is not looked at.
		{bytesOf("\x00\x00", "\x00\x00\x10\x00", ab(4096), ""), 0, api.ErrShort},
		{bytesOf("\x00\x00", "\x00\x00\x10\x00", ab(4095), ""), 0, api.ErrShort},
		{bytesOf("\x00\x00", "\x00\x00\x00\x01", "", "\x02"), 0, api.ErrShort},
		{bytesOf("\x00\x00", "\x00\x00\x00\x00", "", ""), 0, api.ErrShort},
		{bytesOf("\x00\x00", "\x00\x00\x00\x00", "", "\x02"), 0, api.ErrForm},
		{bytesOf("\x00\x00", "\x00\x00\x00\x02", "\x00\x01", "\xff"), 0, api.ErrForm},
		{bytesOf("\xff\xff", "\x00\x00\x10\x00", ab(4096), "\x80"), 0, api.ErrForm},
	} {
		if got := next(x.s, x.at); got != (told{e: x.e}) {
			t.Errorf("%d: Next(%x, %d), of %d bytes, = %.99v, want %v", i, brief(x.s), x.at, len(x.s), got, x.e)
		}
		if x.at != 0 {
			continue
		}
		for _, ahead := range []string{"\x00", "\x00" + plain()} {
			if got, e := frame.Get(ahead + x.s); len(got) != 0 || e != x.e {
				t.Errorf("%d: Get(%x) = %.99v, %v, want %v", i, brief(ahead+x.s), got, e, x.e)
			}
		}
	}
}

func TestTheByteBehindData(t *testing.T) {
	for b := range 256 {
		behind := string([]byte{byte(b)})
		s := bytesOf("\x00\x00", "\x00\x00\x00\x01", "x", behind)
		want := told{e: api.ErrForm}
		if b < 2 {
			want = told{api.Frame{ID: id, Data: "x", Last: b == 1}, 24, api.OK}
		}
		if got := next(s, 0); got != want {
			t.Errorf("behind Data stands %d: %v, want %v", b, got, want)
		}
		holdGet(t, "\x00"+s)
		holdGet(t, "\x00"+plain()+s)
		holdGet(t, "\x00"+s+plain())
	}
}

// All lengths of two bytes, and some of four, in bytes that hold them and in some that do not.
func TestAllLengthsInBytes(t *testing.T) {
	for n := range 65536 {
		s := bytesOf("\x00\x00", string([]byte{0, 0, byte(n >> 8), byte(n)}), "abc", "\x00")
		holdNext(t, s, 0)
	}
	for i := range 32 {
		for _, n := range []uint32{1 << i, 1<<i - 1, 1<<i + 1, ^uint32(0) << i} {
			s := bytesOf("\x00\x00", string([]byte{byte(n >> 24), byte(n >> 16), byte(n >> 8), byte(n)}), ab(5000), "\x00")
			holdNext(t, s, 0)
			holdNext(t, s[:23], 0)
		}
	}
}

func TestGetAtTheEdges(t *testing.T) {
	f := api.Frame{ID: id}
	for i, x := range []struct {
		s    string
		want []api.Frame
		e    api.Errno
	}{
		{"", nil, api.ErrShort},
		{"\x00", nil, api.ErrShort},
		{"\x01", nil, api.ErrKind},
		{"\xff", nil, api.ErrKind},
		{"\x01" + plain(), nil, api.ErrKind},
		{plain(), nil, api.ErrKind},
		{"\x00" + plain(), []api.Frame{f}, api.OK},
		{"\x00" + plain() + plain(), []api.Frame{f, f}, api.OK},
		{"\x00" + plain() + "\x00", nil, api.ErrShort},
		{"\x00\x00", nil, api.ErrShort},
		{"\x00\x00" + plain(), nil, api.ErrShort},
	} {
		if got, e := frame.Get(x.s); !slices.Equal(got, x.want) || e != x.e {
			t.Errorf("%d: Get(%x) = %v, %v, want %v, %v", i, brief(x.s), got, e, x.want, x.e)
		}
	}
	for b := 1; b < 256; b++ {
		first := string([]byte{byte(b)})
		for _, s := range []string{first, first + "\x00", first + plain(), first + plain() + "\x02", first + strings.Repeat(plain(), 33)} {
			if got, e := frame.Get(s); len(got) != 0 || e != api.ErrKind {
				t.Errorf("Get(%x) = %d frames, %v", brief(s), len(got), e)
			}
		}
	}
}

// At the 33rd frame ErrLong is told ahead of all that is wrong with it, and behind all that is
// wrong with those ahead of it.
func TestGetOfTheThirtyThird(t *testing.T) {
	wrongs := map[string]api.Errno{
		"\x00":      api.ErrShort,
		"\xff":      api.ErrShort,
		id:          api.ErrShort,
		plain()[1:]: api.ErrShort,
		bytesOf("\x00\x00", "\x00\x00\x10\x01", "", ""):       api.ErrLong,
		bytesOf("\x00\x00", "\xff\xff\xff\xff", "", ""):       api.ErrLong,
		bytesOf("\x00\x00", "\x00\x00\x00\x00", "", "\x02"):   api.ErrForm,
		bytesOf("\x00\x00", "\x00\x00\x00\x02", "xy", "\xff"): api.ErrForm,
	}
	for wrong, e := range wrongs {
		for n := range 40 {
			want := e
			if n >= 32 {
				want = api.ErrLong
			}
			if got, found := frame.Get("\x00" + strings.Repeat(plain(), n) + wrong); len(got) != 0 || found != want {
				t.Errorf("Get of %d frames and %x = %d frames, %v, want %v", n, wrong, len(got), found, want)
			}
		}
	}
	for place := range 33 {
		l := slices.Repeat([]string{plain()}, 34)
		l[place] = bytesOf("\x00\x00", "\x00\x00\x00\x00", "", "\x02")
		want := api.ErrForm
		if place == 32 {
			want = api.ErrLong
		}
		if got, e := frame.Get("\x00" + strings.Join(l, "")); len(got) != 0 || e != want {
			t.Errorf("Get of 34 frames, the one at %d wrong, = %d frames, %v, want %v", place, len(got), e, want)
		}
	}
}

// What is put is got again, frame by frame and all at once.
func TestRoundTrip(t *testing.T) {
	all := rows()
	for _, f := range edges() {
		all = append(all, []api.Frame{f}, []api.Frame{f, f})
	}
	for n := 1; n <= 32; n++ {
		all = append(all, many(n))
	}
	for _, l := range all {
		holdPut(t, l)
		s, e := frame.Put(l)
		if e != api.OK {
			t.Errorf("Put of %d frames: %v", len(l), e)
			continue
		}
		if got, e := frame.Get(s); !slices.Equal(got, l) || e != api.OK {
			t.Errorf("%d frames are got again as %d, %v", len(l), len(got), e)
		}
		at := 1
		for _, f := range l {
			one, e := frame.One(f)
			if e != api.OK || s[at:at+len(one)] != one {
				t.Errorf("at %d of a row of %d stands not what One tells, %v", at, len(l), e)
			}
			got := next(s, at)
			if got != (told{f, at + len(one), api.OK}) {
				t.Errorf("Next at %d of a row of %d = %.99v", at, len(l), got)
			}
			at = got.end
		}
		if at != len(s) {
			t.Errorf("%d bytes of %d are frames", at, len(s))
		}
	}
}

func TestSpoiltBytes(t *testing.T) {
	seen := map[api.Errno]int{}
	for _, s := range texts() {
		hold(t, s)
		_, e := frame.Get(s)
		seen[e]++
	}
	for _, e := range []api.Errno{api.OK, api.ErrForm, api.ErrShort, api.ErrLong, api.ErrKind} {
		if seen[e] < 20 {
			t.Errorf("%v is told %d times: %v", e, seen[e], seen)
		}
	}
}

// Nothing else is got: of all bytes that differ from small frames by one that is changed, left
// out or put in, what is told has these bytes alone.
func TestAllThatDiffersByAByte(t *testing.T) {
	s, e := frame.Put([]api.Frame{{ID: id, Number: 258, Data: "ab"}, {ID: ab(16), Number: 1, Last: true}})
	if e != api.OK {
		t.Fatal(e)
	}
	for at := range len(s) + 1 {
		for b := range 256 {
			letter := string([]byte{byte(b)})
			holdGet(t, s[:at]+letter+s[at:])
			if at < len(s) {
				holdGet(t, s[:at]+letter+s[at+1:])
			}
		}
		holdGet(t, s[:at])
		if at < len(s) {
			holdGet(t, s[:at]+s[at+1:])
		}
	}
}

// All short texts: none is as long as a frame.
func TestShortTexts(t *testing.T) {
	for a := range 256 {
		hold(t, string([]byte{byte(a)}))
		for b := range 256 {
			holdGet(t, string([]byte{byte(a), byte(b)}))
		}
	}
	for n := range 100 {
		hold(t, strings.Repeat("\x00", n))
		hold(t, strings.Repeat("\x01", n))
		hold(t, ab(n))
	}
}

// No two frames have the same bytes, and no frame's bytes begin another one's.
func TestNoFrameBeginsAnother(t *testing.T) {
	var all []string
	for _, f := range edges() {
		s, _ := frame.One(f)
		all = append(all, s)
	}
	slices.Sort(all)
	all = slices.Compact(all)
	for i := 1; i < len(all); i++ {
		if strings.HasPrefix(all[i], all[i-1]) {
			t.Errorf("%x begins %x", brief(all[i-1]), brief(all[i]))
		}
	}
}

func TestArgumentsStay(t *testing.T) {
	l := append(many(5), short(), long())
	kept := slices.Clone(l)
	for n := range len(l) + 1 {
		holdPut(t, l[:n])
		if !slices.Equal(l, kept) {
			t.Fatalf("Put of %d frames changed a frame", n)
		}
	}
}

func TestAnswersShareNothing(t *testing.T) {
	s, _ := frame.Put(many(3))
	first, _ := frame.Get(s)
	second, _ := frame.Get(s)
	clear(first[:cap(first)])
	if third, e := frame.Get(s); !slices.Equal(second, many(3)) || !slices.Equal(third, many(3)) || e != api.OK {
		t.Error("answers share memory")
	}
	l := many(3)
	s, _ = frame.Put(l)
	kept := strings.Clone(s)
	clear(l)
	if s != kept {
		t.Error("frames that are changed change an answer")
	}
}

// Texts that are told stand in memory of their own, not in that of the bytes they are read of.
func TestTextsAreCopied(t *testing.T) {
	s, _ := frame.Put(many(3))
	begin := uintptr(unsafe.Pointer(unsafe.StringData(s)))
	l, e := frame.Get(s)
	if e != api.OK {
		t.Fatal(e)
	}
	for _, f := range l {
		for _, part := range []string{f.ID, f.Data} {
			own := uintptr(unsafe.Pointer(unsafe.StringData(part)))
			if part != "" && begin <= own && own < begin+uintptr(len(s)) {
				t.Errorf("%q stands in the argument's memory", part)
			}
		}
	}
}

func TestTheSameCallTellsTheSame(t *testing.T) {
	all := texts()[:50]
	for range 3 {
		for _, s := range all {
			hold(t, s)
		}
		for _, f := range []api.Frame{dataOf(5), short(), long(), dataOf(0)} {
			holdCheck(t, f)
			holdOne(t, f)
			holdPut(t, []api.Frame{f, f})
		}
	}
}

// Whatever it is given, a call ends: also with far more bytes, or frames, than there may be.
func TestAllEndsAtAllBytes(t *testing.T) {
	for _, s := range []string{strings.Repeat("\x00", 1<<24), ab(1 << 24), strings.Repeat(plain(), 1<<16), "\x00" + strings.Repeat(plain(), 1<<16)} {
		hold(t, s)
	}
	huge := api.Frame{ID: ab(1 << 24), Number: most, Data: ab(1 << 24)}
	holdCheck(t, huge)
	holdOne(t, huge)
	holdPut(t, []api.Frame{huge})
	holdPut(t, slices.Repeat([]api.Frame{huge}, 1<<16))
}
