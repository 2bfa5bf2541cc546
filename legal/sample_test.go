package legal_test

const (
	most  = 1<<63 - 1
	least = -1 << 63
)

// far are numbers that no table has: those below 0, and great ones. Some are such that their
// lowest 8, 16 or 32 bits are a number of the table.
func far() []int {
	return []int{
		least, least + 1, least + 2, least + 126, -1 << 32, -1<<32 + 1, -1 << 31, -1<<16 + 1, -256, -255, -127, -126, -6, -5, -4, -3, -2, -1,
		256, 257, 258, 260, 382, 1 << 16, 1<<16 + 1, 1<<31 - 1, 1 << 31, 1 << 32, 1<<32 + 1, 1<<32 + 2, 1<<32 + 126, most - 126, most - 1, most,
	}
}

// tried are small numbers, those ahead of them, and some that are far.
func tried() []int {
	l := []int{least, -1 << 32, -2, -1, 126, 1<<32 + 3, most}
	for n := range 8 {
		l = append(l, n)
	}
	return l
}

// triedVersions are all numbers of a byte, and those that are far.
func triedVersions() []int {
	l := far()
	for n := range 256 {
		l = append(l, n)
	}
	return l
}
