package fork_test

import (
	"slices"
	"testing"

	"rescript/api"
	"rescript/fork"
)

// hold holds all calls against the sentences, at all times about the schedule's own.
func hold(t *testing.T, s api.Schedule) {
	t.Helper()
	if got, want := fork.Check(s), checkOf(s.Times); got != want {
		t.Errorf("Check(%v) = %v, want %v", s, got, want)
	}
	for _, at := range about(s) {
		holdActive(t, s, at)
	}
	for _, f := range places() {
		holdFrom(t, s, f)
	}
	if got, want := fork.Ever(s), everOf(s.Times); !slices.Equal(got, want) {
		t.Errorf("Ever(%v) = %v, want %v", s, got, want)
	}
}

func holdActive(t *testing.T, s api.Schedule, at uint64) {
	t.Helper()
	want, e := activeOf(s.Times, at)
	if got, found := fork.Active(s, at); got != want || found != e {
		t.Errorf("Active(%v, %d) = %d, %v, want %d, %v", s, at, got, found, want, e)
	}
}

func holdFrom(t *testing.T, s api.Schedule, f int) {
	t.Helper()
	want, e := fromOf(s.Times, f)
	if got, found := fork.From(s, f); got != want || found != e {
		t.Errorf("From(%v, %d) = %d, %v, want %d, %v", s, f, got, found, want, e)
	}
}

func TestExample(t *testing.T) {
	s := plan(5, 9, 9)
	if e := fork.Check(s); e != api.OK {
		t.Errorf("Check tells %v", e)
	}
	for _, x := range []struct {
		at uint64
		f  int
		e  api.Errno
	}{{0, 0, api.ErrFork}, {4, 0, api.ErrFork}, {5, 0, api.OK}, {6, 0, api.OK}, {8, 0, api.OK}, {9, 2, api.OK}, {10, 2, api.OK}, {top, 2, api.OK}} {
		if f, e := fork.Active(s, x.at); f != x.f || e != x.e {
			t.Errorf("at %d fork %d, %v, want %d, %v", x.at, f, e, x.f, x.e)
		}
	}
	for f, want := range []uint64{5, 9, 9} {
		if from, e := fork.From(s, f); from != want || e != api.OK {
			t.Errorf("fork %d from %d on, %v, want %d", f, from, e, want)
		}
	}
	if got := fork.Ever(s); !slices.Equal(got, []int{0, 2}) {
		t.Errorf("Ever tells %v", got)
	}
}

func TestCheck(t *testing.T) {
	for _, s := range []api.Schedule{
		plan(0), plan(1), plan(top),
		plan(0, 0), plan(0, 1), plan(4, 5), plan(5, 5), plan(top-1, top), plan(top, top), plan(0, top),
		plan(1<<63-1, 1<<63), plan(1<<63, 1<<63),
		plan(1, 2, 3), plan(1, 2, 3, 4), plan(1, 2, 3, 4, 5), plan(1, 2, 3, 4, 5, 6),
		plan(1, 1, 2, 2, 3, 3), plan(0, 0, 0, 0, 0, 0), plan(top, top, top, top, top, top),
		plan(0, 1<<31, 1<<32, 1<<63-1, 1<<63, top),
	} {
		if e := fork.Check(s); e != api.OK {
			t.Errorf("Check(%v) = %v", s, e)
		}
	}
	for want, l := range wrong() {
		for _, s := range l {
			if e := fork.Check(s); e != want {
				t.Errorf("Check of %d times (%.8v) = %v, want %v", len(s.Times), s.Times, e, want)
			}
		}
	}
}

func TestActive(t *testing.T) {
	six := plan(10, 20, 30, 40, 50, 60)
	for _, x := range []struct {
		s  api.Schedule
		at uint64
		f  int
		e  api.Errno
	}{
		{six, 0, 0, api.ErrFork}, {six, 9, 0, api.ErrFork}, {six, 10, 0, api.OK}, {six, 11, 0, api.OK},
		{six, 19, 0, api.OK}, {six, 20, 1, api.OK}, {six, 21, 1, api.OK},
		{six, 29, 1, api.OK}, {six, 30, 2, api.OK}, {six, 31, 2, api.OK},
		{six, 39, 2, api.OK}, {six, 40, 3, api.OK}, {six, 41, 3, api.OK},
		{six, 49, 3, api.OK}, {six, 50, 4, api.OK}, {six, 51, 4, api.OK},
		{six, 59, 4, api.OK}, {six, 60, 5, api.OK}, {six, 61, 5, api.OK}, {six, top, 5, api.OK},
		{plan(0), 0, 0, api.OK}, {plan(0), 1, 0, api.OK}, {plan(0), top, 0, api.OK},
		{plan(1), 0, 0, api.ErrFork}, {plan(1), 1, 0, api.OK},
		{plan(top), 0, 0, api.ErrFork}, {plan(top), top - 1, 0, api.ErrFork}, {plan(top), top, 0, api.OK},
		{plan(0, top), 0, 0, api.OK}, {plan(0, top), top - 1, 0, api.OK}, {plan(0, top), top, 1, api.OK},
		{plan(0, 0), 0, 1, api.OK}, {plan(top, top), top, 1, api.OK}, {plan(top, top), top - 1, 0, api.ErrFork},
		{plan(7, 7, 7, 7, 7, 7), 6, 0, api.ErrFork}, {plan(7, 7, 7, 7, 7, 7), 7, 5, api.OK}, {plan(7, 7, 7, 7, 7, 7), 8, 5, api.OK},
		{plan(5, 5, 9), 5, 1, api.OK}, {plan(5, 5, 9), 8, 1, api.OK}, {plan(5, 5, 9), 9, 2, api.OK},
		{plan(1<<63-1, 1<<63), 1<<63 - 1, 0, api.OK}, {plan(1<<63-1, 1<<63), 1 << 63, 1, api.OK},
	} {
		if f, e := fork.Active(x.s, x.at); f != x.f || e != x.e {
			t.Errorf("Active(%v, %d) = %d, %v, want %d, %v", x.s, x.at, f, e, x.f, x.e)
		}
	}
}

func TestFrom(t *testing.T) {
	six := plan(10, 20, 30, 30, 50, top)
	for _, x := range []struct {
		s    api.Schedule
		f    int
		from uint64
		e    api.Errno
	}{
		{six, 0, 10, api.OK}, {six, 1, 20, api.OK}, {six, 2, 30, api.OK}, {six, 3, 30, api.OK}, {six, 4, 50, api.OK}, {six, 5, top, api.OK},
		{six, 6, 0, api.ErrFork}, {six, 7, 0, api.ErrFork}, {six, -1, 0, api.ErrFork}, {six, -6, 0, api.ErrFork},
		{six, 1<<63 - 1, 0, api.ErrFork}, {six, -1 << 63, 0, api.ErrFork},
		{plan(9), 0, 9, api.OK}, {plan(9), 1, 0, api.ErrFork}, {plan(9), 5, 0, api.ErrFork}, {plan(9), -1, 0, api.ErrFork},
		{plan(0), 0, 0, api.OK}, {plan(0), 1, 0, api.ErrFork},
		{plan(5, 9, 9), 2, 9, api.OK}, {plan(5, 9, 9), 3, 0, api.ErrFork},
		{plan(7, 7, 7, 7, 7, 7), 0, 7, api.OK}, {plan(7, 7, 7, 7, 7, 7), 5, 7, api.OK}, {plan(7, 7, 7, 7, 7, 7), 6, 0, api.ErrFork},
	} {
		if from, e := fork.From(x.s, x.f); from != x.from || e != x.e {
			t.Errorf("From(%v, %d) = %d, %v, want %d, %v", x.s, x.f, from, e, x.from, x.e)
		}
	}
}

func TestEver(t *testing.T) {
	for _, x := range []struct {
		s    api.Schedule
		want []int
	}{
		{plan(0), []int{0}}, {plan(top), []int{0}},
		{plan(0, 0), []int{1}}, {plan(0, 1), []int{0, 1}}, {plan(top, top), []int{1}}, {plan(top-1, top), []int{0, 1}},
		{plan(5, 5, 9), []int{1, 2}}, {plan(5, 9, 9), []int{0, 2}}, {plan(9, 9, 9), []int{2}},
		{plan(1, 2, 3, 4, 5, 6), []int{0, 1, 2, 3, 4, 5}},
		{plan(1, 1, 2, 2, 3, 3), []int{1, 3, 5}},
		{plan(1, 2, 2, 3, 3, 4), []int{0, 2, 4, 5}},
		{plan(0, 0, 0, 0, 0, 0), []int{5}}, {plan(top, top, top, top, top, top), []int{5}},
	} {
		if got := fork.Ever(x.s); !slices.Equal(got, x.want) {
			t.Errorf("Ever(%v) = %v, want %v", x.s, got, x.want)
		}
	}
}

// Check's error comes ahead of what else is wrong: a time ahead of the first one, or no such fork.
func TestWrongSchedules(t *testing.T) {
	for want, l := range wrong() {
		for _, s := range l {
			for _, at := range edges() {
				if f, e := fork.Active(s, at); f != 0 || e != want {
					t.Errorf("Active of %d times (%.8v) at %d = %d, %v, want 0, %v", len(s.Times), s.Times, at, f, e, want)
				}
			}
			for _, f := range places() {
				if from, e := fork.From(s, f); from != 0 || e != want {
					t.Errorf("From of %d times (%.8v), %d = %d, %v, want 0, %v", len(s.Times), s.Times, f, from, e, want)
				}
			}
			if got := fork.Ever(s); len(got) != 0 {
				t.Errorf("Ever of %d times (%.8v) = %v", len(s.Times), s.Times, got)
			}
		}
	}
}

// All rows of up to 7 of three numbers are tried: each order, and each way of some being the same.
func TestAllSmallSchedules(t *testing.T) {
	for _, letters := range [][]uint64{{0, 1, 2}, {4, 6, 9}, {0, 1 << 63, top}, {top - 2, top - 1, top}} {
		for many := range 8 {
			for _, times := range rows(letters, many) {
				hold(t, plan(times...))
			}
		}
	}
}

// All six times stand in each order there is.
func TestEachOrder(t *testing.T) {
	rising := 0
	for _, times := range rows([]uint64{1, 3, 5, 7, 9, 11}, 6) {
		sorted := slices.Compact(slices.Sorted(slices.Values(times)))
		if len(sorted) < 6 {
			continue
		}
		s := plan(times...)
		hold(t, s)
		if fork.Check(s) == api.OK {
			rising++
		}
	}
	if rising != 1 {
		t.Errorf("%d orders are told to rise", rising)
	}
}

func TestLegalSchedules(t *testing.T) {
	for _, s := range legal() {
		if e := fork.Check(s); e != api.OK {
			t.Errorf("Check(%v) = %v", s, e)
		}
		hold(t, s)
	}
}

func TestLaterNoEarlierForkIsActive(t *testing.T) {
	for _, s := range legal() {
		times := about(s)
		for i, early := range times {
			for _, late := range times[i:] {
				f, e := fork.Active(s, early)
				g, found := fork.Active(s, late)
				if e == api.OK && (found != api.OK || f > g) {
					t.Errorf("%v: fork %d at %d, and at %d fork %d, %v", s, f, early, late, g, found)
				}
			}
		}
	}
}

// A fork that is active has begun, and no later one has.
func TestActiveIsTheLatestThatHasBegun(t *testing.T) {
	for _, s := range legal() {
		for _, at := range about(s) {
			f, e := fork.Active(s, at)
			if e != api.OK {
				if first, _ := fork.From(s, 0); at >= first {
					t.Errorf("Active(%v, %d) tells %v", s, at, e)
				}
				continue
			}
			if from, e := fork.From(s, f); e != api.OK || from > at {
				t.Errorf("%v: fork %d at %d, which begins at %d, %v", s, f, at, from, e)
			}
			if next, e := fork.From(s, f+1); e == api.OK && next <= at {
				t.Errorf("%v: fork %d at %d, where the next one has begun at %d", s, f, at, next)
			}
		}
	}
}

// Which fork is active changes at the schedule's times alone: those and the ones about them are all there is to try.
func TestEverTellsWhatIsActiveAtSomeTime(t *testing.T) {
	for _, s := range legal() {
		var some []int
		for _, at := range about(s) {
			if f, e := fork.Active(s, at); e == api.OK && !slices.Contains(some, f) {
				some = append(some, f)
			}
		}
		slices.Sort(some)
		if got := fork.Ever(s); !slices.Equal(got, some) {
			t.Errorf("Ever(%v) = %v, and %v are active at some time", s, got, some)
		}
	}
}

// A schedule stands in a row that goes on behind it: neither is changed.
func TestArgumentsStay(t *testing.T) {
	row := []uint64{5, 9, 9, 3, 1, 2, 4, 8}
	for many := range len(row) + 1 {
		s := plan(row[:many]...)
		hold(t, s)
		if !slices.Equal(row, []uint64{5, 9, 9, 3, 1, 2, 4, 8}) || len(s.Times) != many {
			t.Fatalf("%d times became %v of %v", many, s, row)
		}
	}
}

func TestAnswersShareNothing(t *testing.T) {
	times := []uint64{1, 2, 3, 4, 5, 6}
	s := plan(times...)
	got := fork.Ever(s)
	clear(got[:cap(got)])
	if again := fork.Ever(s); !slices.Equal(again, []int{0, 1, 2, 3, 4, 5}) {
		t.Errorf("an answer that was changed changes the next one: %v", again)
	}
	kept := fork.Ever(s)
	clear(times)
	if !slices.Equal(kept, []int{0, 1, 2, 3, 4, 5}) {
		t.Errorf("a schedule that is changed changes an answer: %v", kept)
	}
}

func TestTheSameCallTellsTheSame(t *testing.T) {
	a, b := plan(5, 9, 9), plan(9, 5)
	for range 3 {
		for _, s := range []api.Schedule{a, b, a} {
			hold(t, s)
		}
	}
}
