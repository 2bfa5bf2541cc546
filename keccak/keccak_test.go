package keccak_test

import (
	"crypto/sha3"
	"encoding/binary"
	"encoding/hex"
	"math"
	"math/bits"
	"math/rand"
	"strings"
	"testing"

	"rescript/api"
	"rescript/keccak"
)

const top = math.MaxUint64

// grid is a state by x and y, the way the chapter speaks of it.
type grid [5][5]uint64

func gridOf(l [25]uint64) grid {
	var a grid
	for x := range 5 {
		for y := range 5 {
			a[x][y] = l[x+5*y]
		}
	}
	return a
}

func (a grid) lanes() [25]uint64 {
	var l [25]uint64
	for x := range 5 {
		for y := range 5 {
			l[x+5*y] = a[x][y]
		}
	}
	return l
}

func (a grid) step1() grid {
	var c [5]uint64
	for x := range 5 {
		c[x] = a[x][0] ^ a[x][1] ^ a[x][2] ^ a[x][3] ^ a[x][4]
	}
	for x := range 5 {
		for y := range 5 {
			a[x][y] ^= c[(x+4)%5] ^ bits.RotateLeft64(c[(x+1)%5], 1)
		}
	}
	return a
}

// step2 rotates up, or, with -1 for up, down.
func (a grid) step2(up int) grid {
	x, y := 1, 0
	for t := range 24 {
		a[x][y] = bits.RotateLeft64(a[x][y], up*((t+1)*(t+2)/2%64))
		x, y = y, (2*x+3*y)%5
	}
	return a
}

func (a grid) step3() grid {
	var b grid
	for x := range 5 {
		for y := range 5 {
			b[y][(2*x+3*y)%5] = a[x][y]
		}
	}
	return b
}

func (a grid) unstep3() grid {
	var b grid
	for x := range 5 {
		for y := range 5 {
			b[x][y] = a[y][(2*x+3*y)%5]
		}
	}
	return b
}

func (a grid) step4() grid {
	var b grid
	for x := range 5 {
		for y := range 5 {
			b[x][y] = a[x][y] ^ (^a[(x+1)%5][y] & a[(x+2)%5][y])
		}
	}
	return b
}

// lowest is r(t) of the chapter.
func lowest(t int) uint64 {
	n := 1
	for range t % 255 {
		n <<= 1
		if n >= 256 {
			n ^= 0x171
		}
	}
	return uint64(n & 1)
}

// roundNumbers are the numbers of all rounds.
func roundNumbers() [24]uint64 {
	var l [24]uint64
	for i := range l {
		for j := range 7 {
			l[i] |= lowest(7*i+j) << (1<<j - 1)
		}
	}
	return l
}

// rounds does what the chapter says of Permute, sentence by sentence.
func rounds(l [25]uint64) [25]uint64 {
	a := gridOf(l)
	for _, number := range roundNumbers() {
		a = a.step1().step2(1).step3().step4()
		a[0][0] ^= number
	}
	return a.lanes()
}

// again does a step so many times.
func again(a grid, times int, step func(grid) grid) grid {
	for range times {
		a = step(a)
	}
	return a
}

// unrounds goes all rounds back. Step 1 comes to nothing when it is done 192 times,
// and step 4 when it is done 4 times: one time less is the way back.
func unrounds(l [25]uint64) [25]uint64 {
	a := gridOf(l)
	numbers := roundNumbers()
	for i := range numbers {
		a[0][0] ^= numbers[len(numbers)-1-i]
		a = again(a, 3, grid.step4).unstep3().step2(-1)
		a = again(a, 191, grid.step1)
	}
	return a.lanes()
}

// oneBit are all states of one bit alone, in each lane.
func oneBit() [][25]uint64 {
	var l [][25]uint64
	for lane := range 25 {
		for bit := range 64 {
			var s [25]uint64
			s[lane] = 1 << bit
			l = append(l, s)
		}
	}
	return l
}

// states are those of zeros, of ones, of one lane alone, and some that look like
// chance, the same in each run; no two are the same.
func states() [][25]uint64 {
	l := [][25]uint64{{}}
	var all [25]uint64
	for lane := range 25 {
		var s [25]uint64
		s[lane] = top
		all[lane] = top
		l = append(l, s)
	}
	l = append(l, all)
	r := rand.New(rand.NewSource(1))
	for range 300 {
		var s [25]uint64
		for i := range s {
			s[i] = r.Uint64()
		}
		l = append(l, s)
	}
	return l
}

func TestPermuteOfZeros(t *testing.T) {
	got := keccak.Permute([25]uint64{})
	if got[0] != 0xF1258F7940E1DDE7 {
		t.Errorf("the first lane is %#X", got[0])
	}
	want := [25]uint64{
		0xF1258F7940E1DDE7, 0x84D5CCF933C0478A, 0xD598261EA65AA9EE, 0xBD1547306F80494D, 0x8B284E056253D057,
		0xFF97A42D7F8E6FD4, 0x90FEE5A0A44647C4, 0x8C5BDA0CD6192E76, 0xAD30A6F71B19059C, 0x30935AB7D08FFC64,
		0xEB5AA93F2317D635, 0xA9A6E6260D712103, 0x81A57C16DBCF555F, 0x43B831CD0347C826, 0x01F22F1A11A5569F,
		0x05E5635A21D9AE61, 0x64BEFEF28CC970F2, 0x613670957BC46611, 0xB87C5A554FD00ECB, 0x8C3EE88A1CCF32C8,
		0x940C7922AE3A2614, 0x1841F924A2C509E4, 0x16F53526E70465C2, 0x75F644E97F30A13B, 0xEAF1FF7B5CECA249,
	}
	if got != want {
		t.Errorf("Permute of zeros = %X, want %X", got, want)
	}
}

func TestPermuteDoesTheRounds(t *testing.T) {
	for _, s := range append(states(), oneBit()...) {
		if got, want := keccak.Permute(s), rounds(s); got != want {
			t.Errorf("Permute(%X) = %X, want %X", s, got, want)
		}
	}
}

func TestPermuteTellsTheSameAgain(t *testing.T) {
	for _, s := range states() {
		before := s
		got := keccak.Permute(s)
		if keccak.Permute(s) != got || s != before {
			t.Errorf("Permute(%X) tells something else the second time, or changes it", before)
		}
	}
}

// No two states come to the same one if each can be had back from what it came to.
func TestPermuteCanBeGoneBack(t *testing.T) {
	for _, s := range append(states(), oneBit()...) {
		if got := unrounds(keccak.Permute(s)); got != s {
			t.Errorf("Permute(%X) goes back to %X", s, got)
		}
		if got := keccak.Permute(unrounds(s)); got != s {
			t.Errorf("Permute of what comes to %X is %X", s, got)
		}
	}
}

func TestPermuteOfNoTwoStatesIsTheSame(t *testing.T) {
	seen := map[[25]uint64][25]uint64{}
	for _, s := range append(states(), oneBit()...) {
		got := keccak.Permute(s)
		if other, ok := seen[got]; ok {
			t.Errorf("Permute is the same of %X and %X", s, other)
		}
		seen[got] = s
	}
}

// sponge is what comes out of a text that is padded with other bytes than here, as
// the library's sums are: those are held against sums made of Permute.
func sponge(s string, rate int, mark byte, n int) string {
	pad := make([]byte, rate-len(s)%rate)
	pad[0] = mark
	pad[len(pad)-1] |= 128
	s += string(pad)
	var state [200]byte
	for ; s != ""; s = s[rate:] {
		for i := range rate {
			state[i] ^= s[i]
		}
		var l [25]uint64
		for i := range l {
			l[i] = binary.LittleEndian.Uint64(state[8*i:])
		}
		for i, lane := range keccak.Permute(l) {
			binary.LittleEndian.PutUint64(state[8*i:], lane)
		}
	}
	return string(state[:n])
}

func TestPermuteMakesTheLibrarysSums(t *testing.T) {
	for n := range 500 {
		s := text(n)
		if want := sha3.Sum256([]byte(s)); sponge(s, 136, 6, 32) != string(want[:]) {
			t.Errorf("256 bits of a text of %d bytes are others", n)
		}
		if want := sha3.Sum512([]byte(s)); sponge(s, 72, 6, 64) != string(want[:]) {
			t.Errorf("512 bits of a text of %d bytes are others", n)
		}
		if want := sha3.SumSHAKE128([]byte(s), 168); sponge(s, 168, 31, 168) != string(want) {
			t.Errorf("168 bytes of a text of %d bytes are others", n)
		}
	}
}

func TestPadAtTheEdges(t *testing.T) {
	zeros := func(n int) string { return strings.Repeat("\x00", n) }
	for _, x := range []struct {
		n    int
		want string
		e    api.Errno
	}{
		{0, "\x01" + zeros(134) + "\x80", api.OK},
		{1, "\x01" + zeros(133) + "\x80", api.OK},
		{133, "\x01\x00\x80", api.OK},
		{134, "\x01\x80", api.OK},
		{135, "\x81", api.OK},
		{136, "\x01" + zeros(134) + "\x80", api.OK},
		{137, "\x01" + zeros(133) + "\x80", api.OK},
		{271, "\x81", api.OK},
		{272, "\x01" + zeros(134) + "\x80", api.OK},
		{273, "\x01" + zeros(133) + "\x80", api.OK},
		{math.MaxInt32, "\x01" + zeros(7) + "\x80", api.OK},
		{1<<40 - 1, "\x01" + zeros(15) + "\x80", api.OK},
		{1 << 40, "\x01" + zeros(14) + "\x80", api.OK},
		{1<<40 + 1, "", api.ErrArg},
		{1<<40 + 136, "", api.ErrArg},
		{1 << 62, "", api.ErrArg},
		{math.MaxInt, "", api.ErrArg},
		{-1, "", api.ErrArg},
		{-136, "", api.ErrArg},
		{-1 << 40, "", api.ErrArg},
		{math.MinInt, "", api.ErrArg},
	} {
		if got, e := keccak.Pad(x.n); got != x.want || e != x.e {
			t.Errorf("Pad(%d) = %q, %v, want %q, %v", x.n, got, e, x.want, x.e)
		}
	}
}

func TestPadFillsBlocks(t *testing.T) {
	for n := range 1000 {
		for _, n := range []int{n, 1<<40 - n, math.MaxInt32 - n} {
			got, e := keccak.Pad(n)
			if e != api.OK || len(got) < 1 || len(got) > 136 || (n+len(got))%136 != 0 {
				t.Errorf("Pad(%d) has %d bytes, %v", n, len(got), e)
				continue
			}
			want := make([]byte, len(got))
			want[0]++
			want[len(want)-1] += 128
			if got != string(want) {
				t.Errorf("Pad(%d) = %q, want %q", n, got, want)
			}
		}
	}
}

// text is of n bytes, other ones for each n.
func text(n int) string {
	b := make([]byte, n)
	for i := range b {
		b[i] = byte(7*i + n)
	}
	return string(b)
}

// The sums stand as they are known of Keccak-256 elsewhere.
func TestSumIsKnown(t *testing.T) {
	for _, x := range []struct {
		s, want string
	}{
		{"", "c5d2460186f7233c927e7db2dcc703c0e500b653ca82273b7bfad8045d85a470"},
		{"abc", "4e03657aea45a94fc7d47ba826c8d667c0d1e6e33a64a036ec44f58fa12d6c45"},
		{"The quick brown fox jumps over the lazy dog", "4d741b6f1eb29cb2a9b9911c82f56fa8d73b04959d3d9d222895df6c0b28aa15"},
		{text(1), "5fe7f977e71dba2ea1a68e21057beebb9be2ac30c6410aa38d4f3fbe41dcffd2"},
		{text(31), "f2edf8e57f5f8acb78dac9a80285ed8d829840361fdc4d99698e7ab6685d82ea"},
		{text(32), "75ddc22689ac5cfab91ff4f11af7f47658c89f63dcb005c00824017d8081c7e8"},
		{text(33), "c6054684b0825b997510f120321a58f8488803992923926fcda6db5405ec35c9"},
		{text(134), "8884d266ac61dea6a59234e679bb56fd1bf116a05634f2e8de1b7224302bc122"},
		{text(135), "8ab570337c9a3a773c3605160ca58e3f0546d92d217c908669cc4f35a31933bc"},
		{text(136), "16b30a6be318a7acbcba7a2194789f628abf68dfbbf55a4d840f22f6a4d29efd"},
		{text(137), "6a7e8293441d51be41bf4994995b35981f90c07866c7fd0465f405e2b7a8f8dd"},
		{text(138), "30f0d8366a3b76471b5276b364f6f74cd5718e98625c6cdbdde882eb0bbbe3b8"},
		{text(271), "bb02bca6be57f42d131406260c6f1a81fd9922af8bd1c96d78f454b19ae10add"},
		{text(272), "443464c0c3ac8036d14a6f8647fc93b592d514adefbe88683cbbda3b4b2c4553"},
		{text(273), "73d5960773e36742ead7c872d84d535f35e75b9517ccb1023491276013f88890"},
		{text(407), "8d761ff83dde45e5088e430b4f011a7453de7a7b38036650ea43cf3620d9b294"},
		{text(408), "199ffed10ac2e6d847e422e9f64113fd5384a21320d7c6be84f82defd3863007"},
		{text(409), "75f85e42c02aa11926f03992928953060a37a8c5fc0f0370ab0dc8047752703b"},
		{text(4096), "6e8e59a43f8d57c8c233464330056609579a3cfeb41fc1b5d83e58ad787c8246"},
	} {
		if got := hex.EncodeToString([]byte(keccak.Sum(x.s))); got != x.want {
			t.Errorf("Sum of %d bytes = %s, want %s", len(x.s), got, x.want)
		}
	}
}

// sumOf does what the chapter says of Sum, sentence by sentence.
func sumOf(s string) string {
	s += "\x01"
	for len(s)%136 != 0 {
		s += "\x00"
	}
	all := []byte(s)
	all[len(all)-1] += 128
	var l [25]uint64
	for len(all) > 0 {
		for i := range 17 {
			l[i] ^= binary.LittleEndian.Uint64(all[8*i:])
		}
		l = rounds(l)
		all = all[136:]
	}
	var out []byte
	for i := range 4 {
		out = binary.LittleEndian.AppendUint64(out, l[i])
	}
	return string(out)
}

func TestSumTakesBlocksInTurn(t *testing.T) {
	r := rand.New(rand.NewSource(2))
	for n := range 600 {
		b := make([]byte, n)
		r.Read(b)
		for _, s := range []string{text(n), string(b), strings.Repeat("\x00", n), strings.Repeat("\xff", n)} {
			got := keccak.Sum(s)
			if want := sumOf(s); got != want {
				t.Errorf("Sum of %d bytes = %x, want %x", n, got, want)
			}
			if keccak.Sum(s) != got {
				t.Errorf("Sum of %d bytes tells something else the second time", n)
			}
		}
	}
}

// A pad that were not told apart from a text's own bytes would give two texts one sum.
func TestSumTellsPadsFromTexts(t *testing.T) {
	seen := map[string]string{}
	for n := range 300 {
		pad, _ := keccak.Pad(n)
		for _, s := range []string{strings.Repeat("\x00", n), strings.Repeat("\x00", n) + pad} {
			sum := keccak.Sum(s)
			if other, ok := seen[sum]; ok && other != s {
				t.Errorf("Sum is the same of %q and %q", s, other)
			}
			seen[sum] = s
		}
	}
}
