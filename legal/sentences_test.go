package legal_test

import (
	"slices"

	"rescript/api"
)

// The chapter's table and sentences, a second time.

type line struct {
	kind     int
	versions []int
	from, to int
}

func lines() []line {
	return []line{
		{1, []int{0, 1, 2, 126}, 0, 5},
		{1, []int{4}, 5, 5},
		{2, []int{0}, 0, 0},
		{2, []int{1}, 1, 1},
		{2, []int{2}, 2, 5},
		{3, []int{0}, 0, 5},
		{3, []int{1}, 3, 5},
		{4, []int{0}, 0, 5},
		{4, []int{2}, 4, 5},
		{5, []int{0}, 0, 4},
		{5, []int{1}, 5, 5},
	}
}

func rangeOf(kind, version int) (int, int, api.Errno) {
	for _, l := range lines() {
		if l.kind == kind && slices.Contains(l.versions, version) {
			return l.from, l.to, api.OK
		}
	}
	return 0, 0, api.ErrKind
}

func legalOf(f, kind, version int) bool {
	from, to, e := rangeOf(kind, version)
	return e == api.OK && f >= from && f <= to
}

// versionsOf tries all versions from 0 to 255 upwards: the table has none beside these.
func versionsOf(f, kind int) []int {
	var l []int
	for version := range 256 {
		if legalOf(f, kind, version) {
			l = append(l, version)
		}
	}
	return l
}

func latestOf(f, kind int) (int, api.Errno) {
	for version := 255; version >= 0; version-- {
		if legalOf(f, kind, version) {
			return version, api.OK
		}
	}
	return 0, api.ErrFork
}
