package frame_test

import (
	"math/rand"
	"slices"
	"strings"

	"rescript/api"
)

const (
	most  = 1<<63 - 1
	least = -1 << 63

	id = "0123456789abcdef"
)

// ab are bytes of so many.
func ab(n int) string { return strings.Repeat("\xab", n) }

// dataOf is a frame of so many bytes.
func dataOf(n int) api.Frame { return api.Frame{ID: id, Number: 7, Data: ab(n)} }

// many are so many frames, no two alike.
func many(n int) []api.Frame {
	var l []api.Frame
	for i := range n {
		l = append(l, api.Frame{ID: id, Number: i, Data: ab(i), Last: i+1 == n})
	}
	return l
}

// short, long and misnumbered are frames that are none.
func short() api.Frame { return api.Frame{ID: id[:15]} }

func long() api.Frame { return dataOf(4097) }

func misnumbered() api.Frame { return api.Frame{ID: id, Number: 65536} }

// bytesOf are the bytes of a frame, put together by hand: whatever its length says, and
// whatever the byte behind it is.
func bytesOf(number, length, data, behind string) string { return id + number + length + data + behind }

// plain are the bytes of a frame without data.
func plain() string { return bytesOf("\x00\x00", "\x00\x00\x00\x00", "", "\x00") }

// edges are frames at the chapter's borders.
func edges() []api.Frame {
	var l []api.Frame
	for _, number := range []int{0, 1, 127, 128, 255, 256, 257, 4096, 32767, 32768, 65279, 65280, 65534, 65535} {
		l = append(l, api.Frame{ID: id, Number: number}, api.Frame{ID: id, Number: number, Data: "x", Last: true})
	}
	for _, n := range []int{0, 1, 2, 15, 16, 22, 23, 127, 128, 255, 256, 257, 4094, 4095, 4096} {
		f := dataOf(n)
		last := f
		last.Last = true
		l = append(l, f, last)
	}
	for _, name := range []string{strings.Repeat("\x00", 16), strings.Repeat("\xff", 16), "\x00" + ab(15), ab(15) + "\x00"} {
		l = append(l, api.Frame{ID: name}, api.Frame{ID: name, Data: name + plain(), Last: true})
	}
	return l
}

// spoilt are frames that are none, and some that are, by each of these parts with each.
func spoilt() []api.Frame {
	var l []api.Frame
	for _, ids := range []int{0, 1, 8, 15, 16, 17, 32, 272, 65552} {
		for _, number := range []int{least, least + 1, -1 << 32, -1<<32 + 1, -65536, -65535, -2, -1, 0, 1, 65534, 65535, 65536, 65537, 131071, 131072, 1<<31 - 1, 1 << 31, 1 << 32, 1<<32 + 1, most - 1, most} {
			for _, data := range []int{0, 1, 4095, 4096, 4097, 4098, 8192, 65535, 65536, 65537, 70000} {
				l = append(l, api.Frame{ID: ab(ids), Number: number, Data: ab(data)})
			}
		}
	}
	return l
}

// Samples: the same in each run.

func pick[T any](r *rand.Rand, l ...T) T { return l[r.Intn(len(l))] }

func sampleText(r *rand.Rand, n int) string {
	b := make([]byte, n)
	for i := range b {
		b[i] = pick(r, 0, 0, 1, 2, 16, 255, byte(r.Intn(256)))
	}
	return string(b)
}

func sampleFrame(r *rand.Rand) api.Frame {
	return api.Frame{
		ID:     sampleText(r, 16),
		Number: pick(r, 0, 1, 255, 256, 65535, r.Intn(65536)),
		Data:   sampleText(r, pick(r, 0, 0, 1, r.Intn(5), r.Intn(40), r.Intn(300), 255, 256, r.Intn(4097), 4096)),
		Last:   r.Intn(2) == 0,
	}
}

// rows are some hundreds of rows of frames that may be.
func rows() [][]api.Frame {
	r := rand.New(rand.NewSource(14))
	var l [][]api.Frame
	for i := range 400 {
		var row []api.Frame
		for range 1 + i%32 {
			row = append(row, sampleFrame(r))
		}
		l = append(l, row)
	}
	return l
}

// texts are the bytes of rows, short ones the most, with a few bytes changed, left out or put in,
// and those of a few frames that are cut.
func texts() []string {
	r := rand.New(rand.NewSource(41))
	var l []string
	for range 4000 {
		var row []api.Frame
		for range pick(r, 1, 1, 2, 3, 31, 32) {
			f := sampleFrame(r)
			f.Data = f.Data[:min(len(f.Data), r.Intn(40))]
			row = append(row, f)
		}
		s, _ := putOf(row)
		b := []byte(s)
		for range r.Intn(3) {
			at := r.Intn(len(b))
			switch r.Intn(5) {
			case 0:
				b = slices.Insert(b, at, byte(pick(r, 0, 1, 2, 16, 255)))
			case 1:
				b = slices.Delete(b, at, at+1)
			case 2:
				b = b[:at+1]
			case 3:
				b = append(b, sampleText(r, pick(r, 1, 22, 23, 24))...)
			default:
				b[at] = byte(pick(r, 0, 1, 2, 16, 17, 255))
			}
			if len(b) == 0 {
				break
			}
		}
		l = append(l, string(b))
	}
	return l
}
