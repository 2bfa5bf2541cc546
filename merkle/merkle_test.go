package merkle_test

import (
	"encoding/hex"
	"math"
	"slices"
	"strings"
	"testing"
	"unsafe"

	"rescript/api"
	"rescript/keccak"
	"rescript/merkle"
)

// holdTree holds Tree against the sentences.
func holdTree(t *testing.T, l []string, most int) (string, api.Errno) {
	t.Helper()
	want, e := treeOf(l, most)
	got, found := merkle.Tree(l, most)
	if got != want || found != e {
		t.Errorf("Tree of %d chunks, of %d at most, is %x, %v, want %x, %v", len(l), most, got, found, want, e)
	}
	return got, found
}

// holdMix holds Mix against the sentences.
func holdMix(t *testing.T, root string, n uint64) (string, api.Errno) {
	t.Helper()
	want, e := mixOf(root, n)
	got, found := merkle.Mix(root, n)
	if got != want || found != e {
		t.Errorf("Mix(%x, %d) = %x, %v, want %x, %v", root, n, got, found, want, e)
	}
	return got, found
}

// pair is the sum of two chunks.
func pair(left, right string) string { return keccak.Sum(left + right) }

// mixed is the sum of a root and of a small number.
func mixed(root string, n byte) string { return pair(root, chunk(string([]byte{n}))) }

// zeroRoots are the roots of 1, 2, 4 and more chunks of zeros, up to 512, as they are widely known.
func zeroRoots() []string {
	l := []string{zeros(32)}
	for _, s := range []string{
		"ad3228b676f7d3cd4284a5443f17f1962b36e491b30a40b2405849e597ba5fb5",
		"b4c11951957c6f8f642c4af61cd6b24640fec6dc7fc607ee8206a99e92410d30",
		"21ddb9a356815c3fac1026b6dec5df3124afbadb485c9ba5a3e3398a04b7ba85",
		"e58769b32a1beaf1ea27375a44095a0d1fb664ce2dd358e7fcbfb78c26a19344",
		"0eb01ebfc9ed27500cd4dfc979272d1f0913cc9f66540d7e8005811109e1cf2d",
		"887c22bd8750d34016ac3c66b5ff102dacdd73f6b014e710b51e8022af9a1968",
		"ffd70157e48063fc33c97a050f7f640233bf646cc98d9524c6b92bcf3ab56f83",
		"9867cc5f7f196b93bae1e27e6320742445d290f2263827498b54fec539f756af",
		"cefad4e508c098b9a7e1d8feb19955fb02ba9675585078710969d3440f5054e0",
	} {
		root, _ := hex.DecodeString(s)
		l = append(l, string(root))
	}
	return l
}

func TestTreesOfZerosAreTheKnownOnes(t *testing.T) {
	known := zeroRoots()
	at := 0
	for most := 1; most <= 512; most++ {
		if most > 1<<at {
			at++
		}
		for _, l := range [][]string{nil, {}, {zeros(32)}, slices.Repeat([]string{zeros(32)}, most)} {
			if root, e := merkle.Tree(l, most); root != known[at] || e != api.OK {
				t.Errorf("Tree of %d chunks of zeros, of %d at most, is %x, %v", len(l), most, root, e)
			}
		}
	}
}

func TestTreesByHand(t *testing.T) {
	a, b, c, d, e := chunkAt(1), chunkAt(2), chunkAt(3), chunkAt(4), chunkAt(5)
	zero := zeroRoots()
	for _, x := range []struct {
		name string
		l    []string
		most int
		root string
	}{
		{"one of 1", []string{a}, 1, a},
		{"one of 2", []string{a}, 2, pair(a, zero[0])},
		{"two of 2", []string{a, b}, 2, pair(a, b)},
		{"one of 3", []string{a}, 3, pair(pair(a, zero[0]), zero[1])},
		{"two of 3", []string{a, b}, 3, pair(pair(a, b), zero[1])},
		{"three of 3", []string{a, b, c}, 3, pair(pair(a, b), pair(c, zero[0]))},
		{"three of 4", []string{a, b, c}, 4, pair(pair(a, b), pair(c, zero[0]))},
		{"four of 4", []string{a, b, c, d}, 4, pair(pair(a, b), pair(c, d))},
		{"four of 5", []string{a, b, c, d}, 5, pair(pair(pair(a, b), pair(c, d)), zero[2])},
		{"five of 5", []string{a, b, c, d, e}, 5, pair(pair(pair(a, b), pair(c, d)), pair(pair(e, zero[0]), zero[1]))},
		{"five of 8", []string{a, b, c, d, e}, 8, pair(pair(pair(a, b), pair(c, d)), pair(pair(e, zero[0]), zero[1]))},
		{"two of 9", []string{a, b}, 9, pair(pair(pair(pair(a, b), zero[1]), zero[2]), zero[3])},
		{"zeros ahead", []string{zero[0], a}, 2, pair(zero[0], a)},
		{"one twice", []string{a, a, a}, 3, pair(pair(a, a), pair(a, zero[0]))},
	} {
		if root, e := holdTree(t, x.l, x.most); root != x.root || e != api.OK {
			t.Errorf("%s: %x, %v, want %x", x.name, root, e, x.root)
		}
	}
}

func TestTreesOfAllCounts(t *testing.T) {
	all := chunks(512)
	for most := 1; most <= 68; most++ {
		for n := range most + 1 {
			holdTree(t, all[:n], most)
		}
	}
	for _, most := range []int{127, 128, 129, 255, 256, 257, 400, 511, 512} {
		for _, n := range []int{0, 1, 2, 3, most / 2, most/2 + 1, most - 1, most} {
			holdTree(t, all[:n], most)
		}
	}
	for most := 1; most <= 512; most++ {
		holdTree(t, all[:1], most)
	}
}

// A root is the sum of both halves' roots.
func TestATreeIsOfBothHalves(t *testing.T) {
	for half := 1; half <= 256; half *= 2 {
		for _, n := range []int{0, 1, half - 1, half, half + 1, 2*half - 1, 2 * half} {
			l := chunks(n)
			at := min(half, n)
			left, e := merkle.Tree(l[:at], half)
			right, f := merkle.Tree(l[at:], half)
			root, g := merkle.Tree(l, 2*half)
			if root != pair(left, right) || e != api.OK || f != api.OK || g != api.OK {
				t.Errorf("%d chunks of %d: %x is not the sum of %x and %x: %v, %v, %v", n, 2*half, root, left, right, e, f, g)
			}
		}
	}
}

// Chunks of zeros behind change nothing; ahead, and between, they do.
func TestZerosBehindChangeNothing(t *testing.T) {
	for _, most := range []int{1, 2, 3, 8, 9, 31, 64, 100, 512} {
		for _, n := range []int{0, 1, 2, 7, 60} {
			l := chunks(min(n, most))
			root, e := merkle.Tree(l, most)
			if e != api.OK {
				t.Errorf("%d of %d: %v", n, most, e)
			}
			for more := range min(most-len(l), 9) + 1 {
				longer := append(slices.Clone(l), slices.Repeat([]string{zeros(32)}, more)...)
				if got, e := merkle.Tree(longer, most); got != root || e != api.OK {
					t.Errorf("%d of %d and %d of zeros behind: %x, %v, want %x", n, most, more, got, e, root)
				}
				ahead := append(slices.Repeat([]string{zeros(32)}, more), l...)
				if got, _ := holdTree(t, ahead, most); got == root && more > 0 && len(l) > 0 {
					t.Errorf("%d of %d and %d of zeros ahead: %x too", n, most, more, got)
				}
			}
		}
	}
}

func TestOnlyThePowerOfTwoOfMostCounts(t *testing.T) {
	l := chunks(2)
	roots := map[string]int{}
	for most := 2; most <= 512; most++ {
		root, _ := merkle.Tree(l, most)
		roots[root]++
	}
	if len(roots) != 9 {
		t.Errorf("2 to 512 at most give %d roots, want one for each of 2, 4, 8 and on to 512", len(roots))
	}
}

func TestTreeRefuses(t *testing.T) {
	for _, most := range []int{0, -1, 513, 514, 1024, math.MinInt, math.MinInt + 1, math.MaxInt, 1 << 32, 1<<32 + 1} {
		for _, l := range [][]string{nil, {}, chunks(1), chunks(2), chunks(513), {"short"}} {
			if root, e := holdTree(t, l, most); root != "" || e != api.ErrArg {
				t.Errorf("%d chunks of %d: %x, %v", len(l), most, root, e)
			}
		}
	}
	for _, most := range []int{1, 2, 3, 4, 7, 8, 9, 255, 256, 511, 512} {
		if root, e := holdTree(t, chunks(most), most); len(root) != 32 || e != api.OK {
			t.Errorf("as many as %d: %x, %v", most, root, e)
		}
		for _, n := range []int{most + 1, 2*most + 1, 4096} {
			if root, e := holdTree(t, chunks(n), most); root != "" || e != api.ErrArg {
				t.Errorf("%d chunks of %d: %x, %v", n, most, root, e)
			}
		}
	}
	for _, n := range []int{1, 2, 5, 8, 512} {
		for _, at := range []int{0, n / 2, n - 1} {
			for _, size := range []int{0, 1, 31, 33, 64, 1 << 16} {
				l := chunks(n)
				l[at] = strings.Repeat("\x01", size)
				for _, most := range []int{n, min(n+1, 512), 512} {
					if root, e := holdTree(t, l, most); root != "" || e != api.ErrArg {
						t.Errorf("one of %d bytes at %d of %d, of %d at most: %x, %v", size, at, n, most, root, e)
					}
				}
			}
		}
	}
	// As many bytes as two chunks have are no two chunks.
	if root, e := holdTree(t, []string{zeros(31), zeros(33)}, 2); root != "" || e != api.ErrArg {
		t.Errorf("%x, %v", root, e)
	}
}

func TestMixes(t *testing.T) {
	root := chunkAt(9)
	for _, x := range []struct {
		n     uint64
		bytes string
	}{
		{0, ""},
		{1, "\x01"},
		{127, "\x7f"},
		{255, "\xff"},
		{256, "\x00\x01"},
		{258, "\x02\x01"},
		{65536, "\x00\x00\x01"},
		{1<<32 - 1, "\xff\xff\xff\xff"},
		{1 << 32, "\x00\x00\x00\x00\x01"},
		{0x0807060504030201, "\x01\x02\x03\x04\x05\x06\x07\x08"},
		{1 << 63, "\x00\x00\x00\x00\x00\x00\x00\x80"},
		{math.MaxUint64 - 1, "\xfe\xff\xff\xff\xff\xff\xff\xff"},
		{math.MaxUint64, "\xff\xff\xff\xff\xff\xff\xff\xff"},
	} {
		for _, r := range []string{root, zeros(32), strings.Repeat("\xff", 32)} {
			if got, e := holdMix(t, r, x.n); got != pair(r, chunk(x.bytes)) || e != api.OK {
				t.Errorf("Mix(%x, %d) = %x, %v", r, x.n, got, e)
			}
		}
	}
	// The sum of two chunks of zeros is a known one.
	if got, e := merkle.Mix(zeros(32), 0); got != zeroRoots()[1] || e != api.OK {
		t.Errorf("%x, %v", got, e)
	}
	for at := range 64 {
		holdMix(t, root, 1<<at)
		holdMix(t, root, 1<<at-1)
	}
	for _, size := range []int{0, 1, 8, 31, 33, 64, 1 << 16} {
		for _, n := range []uint64{0, 1, math.MaxUint64} {
			if got, e := holdMix(t, strings.Repeat("\x01", size), n); got != "" || e != api.ErrArg {
				t.Errorf("a root of %d bytes, and %d: %x, %v", size, n, got, e)
			}
		}
	}
}

// What is behind a list's end is neither read nor changed, and no argument is.
func TestTreeLeavesItsArguments(t *testing.T) {
	for _, most := range []int{1, 2, 3, 4, 5, 8, 9, 512} {
		for n := range min(most, 9) + 1 {
			all := append(chunks(n), "behind", chunkAt(99), "")
			kept := slices.Clone(all)
			root, e := holdTree(t, all[:n], most)
			if !slices.Equal(all, kept) {
				t.Errorf("%d of %d: %x has become %x", n, most, kept, all)
			}
			own := strings.Clone(root)
			clear(all)
			if again, f := merkle.Tree(kept[:n], most); again != own || root != own || f != e {
				t.Errorf("%d of %d: %x, %v the second time, and was %x, %v", n, most, again, f, own, e)
			}
		}
	}
}

// The root of one chunk is that chunk, in memory of its own.
func TestARootIsNoChunksMemory(t *testing.T) {
	own := strings.Clone(chunkAt(1))
	root, e := merkle.Tree([]string{own}, 1)
	if root != own || e != api.OK {
		t.Errorf("%x, %v", root, e)
	}
	if unsafe.StringData(root) == unsafe.StringData(own) {
		t.Error("the root is the chunk's memory")
	}
}
