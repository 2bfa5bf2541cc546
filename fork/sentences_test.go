package fork_test

import "rescript/api"

// The chapter's sentences, a second time.

func checkOf(times []uint64) api.Errno {
	if len(times) == 0 || len(times) >= 7 {
		return api.ErrForm
	}
	for i := 1; i < len(times); i++ {
		if times[i] < times[i-1] {
			return api.ErrOrder
		}
	}
	return api.OK
}

func activeOf(times []uint64, t uint64) (int, api.Errno) {
	if e := checkOf(times); e != api.OK {
		return 0, e
	}
	if t < times[0] {
		return 0, api.ErrFork
	}
	latest := 0
	for f, from := range times {
		if !(from > t) {
			latest = f
		}
	}
	return latest, api.OK
}

func fromOf(times []uint64, f int) (uint64, api.Errno) {
	if e := checkOf(times); e != api.OK {
		return 0, e
	}
	for g, from := range times {
		if g == f {
			return from, api.OK
		}
	}
	return 0, api.ErrFork
}

// everOf goes by the times that lie between: a fork is active at some time if it is the
// last one, or if the next one begins later than it.
func everOf(times []uint64) []int {
	if checkOf(times) != api.OK {
		return nil
	}
	var l []int
	for f := range times {
		if f+1 == len(times) || times[f] < times[f+1] {
			l = append(l, f)
		}
	}
	return l
}
