package legal_test

import (
	"slices"
	"testing"

	"rescript/api"
	"rescript/legal"
)

func holdRange(t *testing.T, kind, version int) {
	t.Helper()
	from, to, e := rangeOf(kind, version)
	if gotFrom, gotTo, got := legal.Range(kind, version); gotFrom != from || gotTo != to || got != e {
		t.Errorf("Range(%d, %d) = %d, %d, %v, want %d, %d, %v", kind, version, gotFrom, gotTo, got, from, to, e)
	}
}

func holdLegal(t *testing.T, f, kind, version int) {
	t.Helper()
	if got, want := legal.Legal(f, kind, version), legalOf(f, kind, version); got != want {
		t.Errorf("Legal(%d, %d, %d) = %v, want %v", f, kind, version, got, want)
	}
}

func holdVersions(t *testing.T, f, kind int) {
	t.Helper()
	if got, want := legal.Versions(f, kind), versionsOf(f, kind); !slices.Equal(got, want) {
		t.Errorf("Versions(%d, %d) = %v, want %v", f, kind, got, want)
	}
}

func holdLatest(t *testing.T, f, kind int) {
	t.Helper()
	want, e := latestOf(f, kind)
	if got, found := legal.Latest(f, kind); got != want || found != e {
		t.Errorf("Latest(%d, %d) = %d, %v, want %d, %v", f, kind, got, found, want, e)
	}
}

func TestExample(t *testing.T) {
	if got := legal.Versions(3, 3); !slices.Equal(got, []int{0, 1}) {
		t.Errorf("batches in fork 3 are of versions %v", got)
	}
	if got := legal.Versions(2, 3); !slices.Equal(got, []int{0}) {
		t.Errorf("batches in fork 2 are of versions %v", got)
	}
}

// Each format of the table stands here, with the forks that it is legal in.
func TestEachFormat(t *testing.T) {
	for _, x := range []struct{ kind, version, from, to int }{
		{1, api.TxLegacy, 0, 5}, {1, api.TxAccess, 0, 5}, {1, api.TxFee, 0, 5}, {1, api.TxDeposit, 0, 5}, {1, api.TxCode, 5, 5},
		{2, 0, 0, 0}, {2, 1, 1, 1}, {2, 2, 2, 5},
		{3, 0, 0, 5}, {3, 1, 3, 5},
		{4, 0, 0, 5}, {4, 2, 4, 5},
		{5, 0, 0, 4}, {5, 1, 5, 5},
	} {
		if from, to, e := legal.Range(x.kind, x.version); from != x.from || to != x.to || e != api.OK {
			t.Errorf("Range(%d, %d) = %d, %d, %v, want %d, %d", x.kind, x.version, from, to, e, x.from, x.to)
		}
		for f := range 6 {
			want := x.from <= f && f <= x.to
			if got := legal.Legal(f, x.kind, x.version); got != want {
				t.Errorf("Legal(%d, %d, %d) = %v", f, x.kind, x.version, got)
			}
			if got := slices.Contains(legal.Versions(f, x.kind), x.version); got != want {
				t.Errorf("version %d is in Versions(%d, %d): %v", x.version, f, x.kind, got)
			}
		}
		for fork, want := range map[int]bool{x.from - 1: false, x.from: true, x.to: true, x.to + 1: false} {
			if got := legal.Legal(fork, x.kind, x.version); got != want {
				t.Errorf("Legal(%d, %d, %d) = %v", fork, x.kind, x.version, got)
			}
		}
	}
}

// The versions stand here by kind, and fork.
func TestVersionsAndLatestInEachFork(t *testing.T) {
	for kind, forks := range map[int][6][]int{
		1: {{0, 1, 2, 126}, {0, 1, 2, 126}, {0, 1, 2, 126}, {0, 1, 2, 126}, {0, 1, 2, 126}, {0, 1, 2, 4, 126}},
		2: {{0}, {1}, {2}, {2}, {2}, {2}},
		3: {{0}, {0}, {0}, {0, 1}, {0, 1}, {0, 1}},
		4: {{0}, {0}, {0}, {0}, {0, 2}, {0, 2}},
		5: {{0}, {0}, {0}, {0}, {0}, {1}},
	} {
		for f, want := range forks {
			if got := legal.Versions(f, kind); !slices.Equal(got, want) {
				t.Errorf("Versions(%d, %d) = %v, want %v", f, kind, got, want)
			}
			if got, e := legal.Latest(f, kind); got != want[len(want)-1] || e != api.OK {
				t.Errorf("Latest(%d, %d) = %d, %v, want the last one of %v", f, kind, got, e, want)
			}
		}
	}
}

// A version of one kind is none of another; the table has neither a kind's neighbours nor a version's.
func TestWhatTheTableHasNot(t *testing.T) {
	for _, x := range [][2]int{
		{0, 0}, {0, 1}, {6, 0}, {6, 1}, {-1, 0}, {-1, 1}, {7, 0}, {126, 0}, {126, 1}, {most, 0}, {least, 0}, {most, most}, {least, least}, {most, least},
		{1, 3}, {1, 5}, {1, 6}, {1, 125}, {1, 127}, {1, -1}, {1, most}, {1, least}, {1, -126},
		{2, 3}, {2, 4}, {2, 6}, {2, 126}, {2, -1}, {2, most}, {2, least},
		{3, 2}, {3, 3}, {3, 6}, {3, 126}, {3, -1}, {3, most}, {3, least},
		{4, 1}, {4, 3}, {4, 6}, {4, 126}, {4, -1}, {4, most}, {4, least},
		{5, 2}, {5, 3}, {5, 6}, {5, 126}, {5, -1}, {5, most}, {5, least},
	} {
		if from, to, e := legal.Range(x[0], x[1]); from != 0 || to != 0 || e != api.ErrKind {
			t.Errorf("Range(%d, %d) = %d, %d, %v", x[0], x[1], from, to, e)
		}
		for f := range 6 {
			if legal.Legal(f, x[0], x[1]) {
				t.Errorf("Legal(%d, %d, %d)", f, x[0], x[1])
			}
		}
	}
}

func TestForksThatThereAreNot(t *testing.T) {
	for _, f := range append(far(), 6, 7, 8, 15) {
		for kind := range 7 {
			for _, version := range []int{-1, 0, 1, 2, 3, 4, 5, 126} {
				if legal.Legal(f, kind, version) {
					t.Errorf("Legal(%d, %d, %d)", f, kind, version)
				}
			}
			holdNone(t, f, kind)
		}
	}
}

func TestKindsThatThereAreNot(t *testing.T) {
	for _, kind := range append(far(), 0, 6, 7, 15, 126) {
		for f := range 6 {
			holdNone(t, f, kind)
		}
	}
}

func holdNone(t *testing.T, f, kind int) {
	t.Helper()
	if got := legal.Versions(f, kind); len(got) != 0 {
		t.Errorf("Versions(%d, %d) = %v", f, kind, got)
	}
	if got, e := legal.Latest(f, kind); got != 0 || e != api.ErrFork {
		t.Errorf("Latest(%d, %d) = %d, %v", f, kind, got, e)
	}
}

func TestSentences(t *testing.T) {
	for _, kind := range tried() {
		for _, f := range tried() {
			holdVersions(t, f, kind)
			holdLatest(t, f, kind)
			for _, version := range triedVersions() {
				holdLegal(t, f, kind, version)
			}
		}
		for _, version := range triedVersions() {
			holdRange(t, kind, version)
		}
	}
}

func TestInEachForkSomeVersionOfEachKindIsLegal(t *testing.T) {
	for f := range api.MaxForks {
		for kind := 1; kind <= 5; kind++ {
			version, e := legal.Latest(f, kind)
			if e != api.OK || !legal.Legal(f, kind, version) {
				t.Errorf("fork %d, kind %d: the latest version is %d, %v", f, kind, version, e)
			}
		}
	}
}

func TestVersionsAreThoseThatLegalTells(t *testing.T) {
	for _, f := range tried() {
		for _, kind := range tried() {
			got := legal.Versions(f, kind)
			for i := range got {
				if i > 0 && got[i-1] >= got[i] {
					t.Errorf("Versions(%d, %d) = %v: they do not rise", f, kind, got)
				}
			}
			for _, version := range triedVersions() {
				if yes := legal.Legal(f, kind, version); yes != slices.Contains(got, version) {
					t.Errorf("Versions(%d, %d) = %v, and Legal of %d tells %v", f, kind, got, version, yes)
				}
			}
		}
	}
}

func TestLatestIsTheLastOfVersions(t *testing.T) {
	for _, f := range tried() {
		for _, kind := range tried() {
			all := legal.Versions(f, kind)
			last, e := legal.Latest(f, kind)
			switch {
			case len(all) == 0 && (last != 0 || e != api.ErrFork):
				t.Errorf("Latest(%d, %d) = %d, %v, where there are none", f, kind, last, e)
			case len(all) > 0 && (last != all[len(all)-1] || e != api.OK):
				t.Errorf("Latest(%d, %d) = %d, %v, of %v", f, kind, last, e, all)
			}
		}
	}
}

// A map is gone through in an order that changes: what is told does not.
func TestTheSameCallTellsTheSame(t *testing.T) {
	for f := range 6 {
		for kind := range 7 {
			want := versionsOf(f, kind)
			last, e := latestOf(f, kind)
			for range 300 {
				if got := legal.Versions(f, kind); !slices.Equal(got, want) {
					t.Fatalf("Versions(%d, %d) = %v, want %v", f, kind, got, want)
				}
				if got, found := legal.Latest(f, kind); got != last || found != e {
					t.Fatalf("Latest(%d, %d) = %d, %v, want %d, %v", f, kind, got, found, last, e)
				}
			}
		}
	}
}

func TestAnswersShareNothing(t *testing.T) {
	for f := range 6 {
		for kind := 1; kind <= 5; kind++ {
			got, kept := legal.Versions(f, kind), legal.Versions(f, kind)
			for i := range got[:cap(got)] {
				got[:cap(got)][i] = -7
			}
			if want := versionsOf(f, kind); !slices.Equal(kept, want) {
				t.Errorf("Versions(%d, %d) = %v once another answer is changed, want %v", f, kind, kept, want)
			}
			holdVersions(t, f, kind)
			holdLatest(t, f, kind)
		}
	}
}
