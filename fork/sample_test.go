package fork_test

import (
	"math/rand"
	"slices"

	"rescript/api"
)

const top = 1<<64 - 1

func plan(times ...uint64) api.Schedule { return api.Schedule{Times: times} }

// rows are all rows of so many of these numbers, in any order.
func rows(letters []uint64, many int) [][]uint64 {
	if many == 0 {
		return [][]uint64{{}}
	}
	var l [][]uint64
	for _, row := range rows(letters, many-1) {
		for _, n := range letters {
			l = append(l, append(slices.Clone(row), n))
		}
	}
	return l
}

// edges are small numbers, great ones, and those about a half of all.
func edges() []uint64 {
	return []uint64{0, 1, 2, 5, 9, 1<<31 - 1, 1 << 31, 1<<32 - 1, 1 << 32, 1<<63 - 1, 1 << 63, 1<<63 + 1, top - 2, top - 1, top}
}

// legal are some hundreds of schedules of 1 to 6 times that rise, of numbers that look like
// chance, the same in each run; in many of them some times are the same.
func legal() []api.Schedule {
	r := rand.New(rand.NewSource(12))
	var l []api.Schedule
	for i := range 600 {
		times := make([]uint64, 1+i%6)
		for f := range times {
			times[f] = numberOf(r)
			if f > 0 && r.Intn(3) == 0 {
				times[f] = times[f-1]
			}
		}
		slices.Sort(times)
		l = append(l, plan(times...))
	}
	return l
}

func numberOf(r *rand.Rand) uint64 {
	switch r.Intn(4) {
	case 0:
		return edges()[r.Intn(len(edges()))]
	case 1:
		return uint64(r.Intn(20))
	}
	return r.Uint64() >> r.Intn(64)
}

// wrong are schedules that Check tells an error of, each with it.
func wrong() map[api.Errno][]api.Schedule {
	return map[api.Errno][]api.Schedule{
		api.ErrForm: {
			{},
			plan([]uint64{}...),
			plan(1, 2, 3, 4, 5, 6, 7),
			plan(0, 0, 0, 0, 0, 0, 0),
			plan(make([]uint64, 8)...),
			plan(make([]uint64, 64)...),
			plan(make([]uint64, 1<<16)...),
			plan(top, top, top, top, top, top, top),
			// Of two faults this one is told first.
			plan(7, 6, 5, 4, 3, 2, 1),
			plan(2, 1, 3, 4, 5, 6, 7),
			plan(1, 2, 3, 4, 5, 7, 6),
		},
		api.ErrOrder: {
			plan(1, 0),
			plan(9, 5),
			plan(5, 4, 5),
			plan(5, 9, 8),
			plan(top, 0),
			plan(top, top-1),
			plan(1<<63, 1<<63-1),
			plan(2, 1, 3, 4, 5, 6),
			plan(1, 2, 4, 3, 5, 6),
			plan(1, 2, 3, 4, 6, 5),
			plan(6, 5, 4, 3, 2, 1),
			plan(1, 1, 1, 1, 1, 0),
		},
	}
}

// about are the times of a schedule, those one below and one above each, and the edges; they rise.
func about(s api.Schedule) []uint64 {
	l := edges()
	for _, from := range s.Times {
		l = append(l, from)
		if from > 0 {
			l = append(l, from-1)
		}
		if from < top {
			l = append(l, from+1)
		}
	}
	slices.Sort(l)
	return slices.Compact(l)
}

// places are forks that a schedule has, and those that none has.
func places() []int {
	l := []int{-1 << 63, -1<<63 + 1, -1 << 31, -7, -6, -2, -1, 1 << 16, 1<<31 - 1, 1 << 32, 1<<63 - 2, 1<<63 - 1}
	for f := range 9 {
		l = append(l, f)
	}
	return l
}
