package channel_test

import (
	"math/rand"
	"slices"
	"strings"

	"rescript/api"
)

const (
	most  = 1<<63 - 1
	least = -1 << 63

	id    = "0123456789abcdef"
	other = "0123456789abcdeF"
)

// part is a frame of a number, whose Data tell which one it is.
func part(number int) api.Frame {
	return api.Frame{ID: id, Number: number, Data: "<" + string(rune('a'+number%26)) + ">"}
}

// end is a Last one.
func end(number int) api.Frame {
	f := part(number)
	f.Last = true
	return f
}

// parts are frames of these numbers, none of them Last.
func parts(numbers ...int) []api.Frame {
	var l []api.Frame
	for _, n := range numbers {
		l = append(l, part(n))
	}
	return l
}

// upTo are frames of the numbers from 0 on, and the Last one of this number behind them.
func upTo(number int) []api.Frame {
	var l []api.Frame
	for n := range number {
		l = append(l, part(n))
	}
	return append(l, end(number))
}

// foreign is a frame of another channel.
func foreign(f api.Frame) api.Frame {
	f.ID = other
	return f
}

// noFrames are frames that are none, each with what is wrong.
func noFrames() map[api.Errno][]api.Frame {
	l := map[api.Errno][]api.Frame{}
	for _, name := range []string{"", id[:15], id + "g", id + id, strings.Repeat("x", 65552)} {
		l[api.ErrForm] = append(l[api.ErrForm], api.Frame{ID: name}, api.Frame{ID: name, Number: 1, Last: true})
	}
	for _, n := range []int{least, least + 1, -1 << 32, -65536, -2, -1, 65536, 65537, 1 << 31, 1 << 32, most - 1, most} {
		l[api.ErrForm] = append(l[api.ErrForm], api.Frame{ID: id, Number: n}, api.Frame{ID: id, Number: n, Last: true})
	}
	for _, n := range []int{4097, 4098, 65536, 1 << 20} {
		data := strings.Repeat("d", n)
		l[api.ErrLong] = append(l[api.ErrLong], api.Frame{ID: id, Data: data}, api.Frame{ID: id, Number: 40, Data: data, Last: true})
	}
	return l
}

// datum are so many bytes, of which no two parts are alike.
func datum(n int) string {
	b := make([]byte, n)
	for i := range b {
		b[i] = byte(i ^ i>>8*37 ^ i>>16)
	}
	return string(b)
}

// small are the frames of small rows: of two channels, of three numbers, Last or not, and one
// that is none.
func small() []api.Frame {
	l := []api.Frame{{ID: id[:15]}}
	for n := range 3 {
		for _, f := range []api.Frame{part(n), end(n)} {
			l = append(l, f, foreign(f))
		}
	}
	return l
}

// rowsOf are all rows of at most so many of these frames.
func rowsOf(frames []api.Frame, longest int) [][]api.Frame {
	all := [][]api.Frame{nil}
	begin := 0
	for range longest {
		for _, row := range all[begin:] {
			for _, f := range frames {
				all = append(all, append(slices.Clone(row), f))
			}
			begin++
		}
	}
	return all
}

// orders are all orders of so many things.
func orders(n int) [][]int {
	if n == 0 {
		return [][]int{nil}
	}
	var all [][]int
	for _, order := range orders(n - 1) {
		for at := range n {
			all = append(all, slices.Insert(slices.Clone(order), at, n-1))
		}
	}
	return all
}

// Samples: the same in each run.

func pick[T any](r *rand.Rand, l ...T) T { return l[r.Intn(len(l))] }

func sampleData(r *rand.Rand, n int) string {
	b := make([]byte, n)
	for i := range b {
		b[i] = byte(r.Intn(256))
	}
	return string(b)
}

// sampleFrame is a frame that fits a channel, or nearly so.
func sampleFrame(r *rand.Rand) api.Frame {
	return api.Frame{
		ID:     pick(r, id, id, id, id, id, id, id, other),
		Number: pick(r, r.Intn(4), r.Intn(34), r.Intn(34), r.Intn(34), 31, 32, 65535, 65536, -1),
		Data:   sampleData(r, pick(r, 0, 1, r.Intn(20))),
		Last:   r.Intn(8) == 0,
	}
}

// sampleRow is what was heard of a channel, with a thing or two changed now and then.
func sampleRow(r *rand.Rand) []api.Frame {
	var l []api.Frame
	number := pick(r, 0, 0, 0, r.Intn(20))
	for range pick(r, 0, 1, 2, 3, r.Intn(33), 32) {
		l = append(l, api.Frame{ID: id, Number: number, Data: sampleData(r, r.Intn(9))})
		number += pick(r, 1, 1, 1, 1, 1, 1, 1, 2, 3)
	}
	if len(l) == 0 {
		return l
	}
	l[len(l)-1].Last = r.Intn(2) == 0
	for range pick(r, 0, 0, 1, 2) {
		i, j := r.Intn(len(l)), r.Intn(len(l))
		switch r.Intn(6) {
		case 0:
			l[i], l[j] = l[j], l[i]
		case 1:
			l[i].Number = l[j].Number
		case 2:
			l[i].Last = true
		case 3:
			l[i].ID = pick(r, other, id[:15])
		case 4:
			l[i].Data = pick(r, "", sampleData(r, 4096), sampleData(r, 4097))
		default:
			l[i] = sampleFrame(r)
		}
	}
	return l
}
