package num_test

import (
	"encoding/binary"
	"math"
	"math/big"
	"math/rand"
	"strings"
	"testing"

	"rescript/api"
	"rescript/num"
)

const top = math.MaxUint64

// samples are numbers around each border of digits and of bytes, and some that look
// like chance, the same in each run.
func samples() []uint64 {
	l := []uint64{0, 1, 2, 127, 128, 129, 255, 256, 257, 258, 300, top - 1, top}
	for i := range 64 {
		l = append(l, 1<<i-1, 1<<i, 1<<i+1)
	}
	r := rand.New(rand.NewSource(1))
	for range 200 {
		l = append(l, r.Uint64()>>r.Intn(64))
	}
	return l
}

// texts are of each length up to past the longest number, of bytes that end digits,
// bytes that do not, and zeros, the same in each run.
func texts() []string {
	l := []string{""}
	r := rand.New(rand.NewSource(2))
	edges := []byte{0, 1, 2, 127, 128, 129, 254, 255}
	for n := 1; n < 14; n++ {
		for range 400 {
			b := make([]byte, n)
			for i := range b {
				b[i] = edges[r.Intn(len(edges))]
				if r.Intn(4) != 0 {
					b[i] |= 128
				}
			}
			l = append(l, string(b))
		}
	}
	for a := range 256 {
		l = append(l, string([]byte{byte(a)}))
		for b := range 256 {
			l = append(l, string([]byte{byte(a), byte(b)}))
		}
	}
	return l
}

func TestBe(t *testing.T) {
	for _, n := range samples() {
		want := string(new(big.Int).SetUint64(n).Bytes())
		if got := num.Be(n); got != want {
			t.Errorf("Be(%d) = %q, want %q", n, got, want)
		}
	}
	for _, x := range []struct {
		n    uint64
		want string
	}{
		{0, ""},
		{1, "\x01"},
		{255, "\xff"},
		{256, "\x01\x00"},
		{258, "\x01\x02"},
		{1 << 56, "\x01\x00\x00\x00\x00\x00\x00\x00"},
		{top, strings.Repeat("\xff", 8)},
	} {
		if got := num.Be(x.n); got != x.want {
			t.Errorf("Be(%d) = %q, want %q", x.n, got, x.want)
		}
	}
}

func TestUnbe(t *testing.T) {
	for _, x := range []struct {
		s string
		n uint64
		e api.Errno
	}{
		{"", 0, api.OK},
		{"\x01", 1, api.OK},
		{"\xff", 255, api.OK},
		{"\x01\x00", 256, api.OK},
		{"\x01\x02\x03\x04\x05\x06\x07\x08", 0x0102030405060708, api.OK},
		{"\x01" + strings.Repeat("\x00", 7), 1 << 56, api.OK},
		{strings.Repeat("\xff", 8), top, api.OK},
		{"\x00", 0, api.ErrSpare},
		{"\x00\x01", 0, api.ErrSpare},
		{"\x00" + strings.Repeat("\x01", 7), 0, api.ErrSpare},
		{strings.Repeat("\x00", 8), 0, api.ErrSpare},
		{"\x01" + strings.Repeat("\x00", 8), 0, api.ErrLong},
		{"\x00" + strings.Repeat("\xff", 8), 0, api.ErrLong},
		{strings.Repeat("\x00", 9), 0, api.ErrLong},
		{strings.Repeat("\x01", 32), 0, api.ErrLong},
		{strings.Repeat("\x00", 33), 0, api.ErrLong},
		{strings.Repeat("\x01", 1000), 0, api.ErrLong},
	} {
		if n, e := num.Unbe(x.s); n != x.n || e != x.e {
			t.Errorf("Unbe(%q) = %d, %v, want %d, %v", x.s, n, e, x.n, x.e)
		}
	}
}

func TestLe(t *testing.T) {
	for _, n := range samples() {
		all := string(binary.LittleEndian.AppendUint64(nil, n))
		needs := len(strings.TrimRight(all, "\x00"))
		for width := -2; width <= 11; width++ {
			want, e := "", api.ErrArg
			if width >= 1 && width <= 8 && width >= needs {
				want, e = all[:width], api.OK
			}
			if got, f := num.Le(n, width); got != want || f != e {
				t.Errorf("Le(%d, %d) = %q, %v, want %q, %v", n, width, got, f, want, e)
			}
		}
	}
}

func TestLeAtTheEdges(t *testing.T) {
	for _, x := range []struct {
		n     uint64
		width int
		want  string
		e     api.Errno
	}{
		{0, 0, "", api.ErrArg},
		{0, 1, "\x00", api.OK},
		{0, 8, strings.Repeat("\x00", 8), api.OK},
		{0, 9, "", api.ErrArg},
		{255, 1, "\xff", api.OK},
		{256, 1, "", api.ErrArg},
		{256, 2, "\x00\x01", api.OK},
		{258, 4, "\x02\x01\x00\x00", api.OK},
		{1<<56 - 1, 7, strings.Repeat("\xff", 7), api.OK},
		{1 << 56, 7, "", api.ErrArg},
		{1 << 56, 8, strings.Repeat("\x00", 7) + "\x01", api.OK},
		{top, 7, "", api.ErrArg},
		{top, 8, strings.Repeat("\xff", 8), api.OK},
		{top, 9, "", api.ErrArg},
		{1, -1, "", api.ErrArg},
		{1, 32, "", api.ErrArg},
		{1, math.MinInt, "", api.ErrArg},
		{1, math.MaxInt, "", api.ErrArg},
	} {
		if got, e := num.Le(x.n, x.width); got != x.want || e != x.e {
			t.Errorf("Le(%d, %d) = %q, %v, want %q, %v", x.n, x.width, got, e, x.want, x.e)
		}
	}
}

func TestUnle(t *testing.T) {
	for _, x := range []struct {
		s string
		n uint64
		e api.Errno
	}{
		{"", 0, api.ErrForm},
		{"\x00", 0, api.OK},
		{"\xff", 255, api.OK},
		{"\x01\x00", 1, api.OK},
		{"\x00\x01", 256, api.OK},
		{"\x02\x01\x00\x00", 258, api.OK},
		{"\x01\x02\x03\x04\x05\x06\x07\x08", 0x0807060504030201, api.OK},
		{strings.Repeat("\x00", 8), 0, api.OK},
		{strings.Repeat("\x00", 7) + "\x80", 1 << 63, api.OK},
		{strings.Repeat("\xff", 8), top, api.OK},
		{strings.Repeat("\x00", 9), 0, api.ErrForm},
		{"\x01" + strings.Repeat("\x00", 8), 0, api.ErrForm},
		{strings.Repeat("\x01", 1000), 0, api.ErrForm},
	} {
		if n, e := num.Unle(x.s); n != x.n || e != x.e {
			t.Errorf("Unle(%q) = %d, %v, want %d, %v", x.s, n, e, x.n, x.e)
		}
	}
}

func TestVar(t *testing.T) {
	for _, n := range samples() {
		want := string(binary.AppendUvarint(nil, n))
		if got := num.Var(n); got != want {
			t.Errorf("Var(%d) = %q, want %q", n, got, want)
		}
	}
	for _, x := range []struct {
		n    uint64
		want string
	}{
		{0, "\x00"},
		{1, "\x01"},
		{127, "\x7f"},
		{128, "\x80\x01"},
		{300, "\xac\x02"},
		{1<<14 - 1, "\xff\x7f"},
		{1 << 14, "\x80\x80\x01"},
		{1<<63 - 1, strings.Repeat("\xff", 8) + "\x7f"},
		{1 << 63, strings.Repeat("\x80", 9) + "\x01"},
		{top, strings.Repeat("\xff", 9) + "\x01"},
	} {
		if got := num.Var(x.n); got != x.want {
			t.Errorf("Var(%d) = %q, want %q", x.n, got, x.want)
		}
	}
}

// lastDigit is the place of the first byte below 128 among the first ten, or -1.
func lastDigit(s string) int {
	for i := 0; i < len(s) && i < 10; i++ {
		if s[i] < 128 {
			return i
		}
	}
	return -1
}

// readVar does what the chapter says of Unvar, sentence by sentence.
func readVar(s string, at int) (uint64, int, api.Errno) {
	if at < 0 || at > len(s) {
		return 0, 0, api.ErrArg
	}
	ahead := s[at:]
	last := lastDigit(ahead)
	if last < 0 && len(ahead) < 10 {
		return 0, 0, api.ErrShort
	}
	if last < 0 || last == 9 && ahead[9] > 1 {
		return 0, 0, api.ErrLong
	}
	if last > 0 && ahead[last] == 0 {
		return 0, 0, api.ErrSpare
	}
	n := new(big.Int)
	for i := last; i >= 0; i-- {
		n.Mul(n, big.NewInt(128))
		n.Add(n, big.NewInt(int64(ahead[i]%128)))
	}
	return n.Uint64(), at + last + 1, api.OK
}

func TestUnvar(t *testing.T) {
	for _, s := range texts() {
		for at := -1; at <= len(s)+1; at++ {
			n, end, e := num.Unvar(s, at)
			if m, to, f := readVar(s, at); n != m || end != to || e != f {
				t.Errorf("Unvar(%q, %d) = %d, %d, %v, want %d, %d, %v", s, at, n, end, e, m, to, f)
			}
		}
	}
}

func TestUnvarAtTheEdges(t *testing.T) {
	nine := strings.Repeat("\x80", 9)
	for _, x := range []struct {
		s   string
		at  int
		n   uint64
		end int
		e   api.Errno
	}{
		{"\x00", 0, 0, 1, api.OK},
		{"\x7f", 0, 127, 1, api.OK},
		{"\x80\x01", 0, 128, 2, api.OK},
		{"\xac\x02", 0, 300, 2, api.OK},
		{"\xac\x02", 1, 2, 2, api.OK},
		{"\xff\xac\x02\xff", 1, 300, 3, api.OK},
		{nine + "\x01", 0, 1 << 63, 10, api.OK},
		{strings.Repeat("\xff", 9) + "\x01", 0, top, 10, api.OK},
		{"\xff" + nine + "\x01\x80", 1, 1 << 63, 11, api.OK},
		// A tenth byte that is not of the number does not matter.
		{"\x05" + strings.Repeat("\xff", 12), 0, 5, 1, api.OK},
		{nine[:8] + "\x01\xff", 0, 1 << 56, 9, api.OK},
		// The place.
		{"", 0, 0, 0, api.ErrShort},
		{"", 1, 0, 0, api.ErrArg},
		{"", -1, 0, 0, api.ErrArg},
		{"\x01", -1, 0, 0, api.ErrArg},
		{"\x01", 1, 0, 0, api.ErrShort},
		{"\x01", 2, 0, 0, api.ErrArg},
		{"\x01", math.MinInt, 0, 0, api.ErrArg},
		{"\x01", math.MaxInt, 0, 0, api.ErrArg},
		{strings.Repeat("\x80", 20), 21, 0, 0, api.ErrArg},
		// Bytes that end ahead of the last digit.
		{"\x80", 0, 0, 0, api.ErrShort},
		{"\x01\xff", 1, 0, 0, api.ErrShort},
		{nine, 0, 0, 0, api.ErrShort},
		{nine + "\x80", 1, 0, 0, api.ErrShort},
		// Ten bytes without an end, and a tenth one above 1.
		{nine + "\x80", 0, 0, 0, api.ErrLong},
		{nine + "\x81", 0, 0, 0, api.ErrLong},
		{strings.Repeat("\xff", 10), 0, 0, 0, api.ErrLong},
		{nine + "\x80\x00", 0, 0, 0, api.ErrLong},
		{nine + "\x80\x01", 0, 0, 0, api.ErrLong},
		{nine + "\x02", 0, 0, 0, api.ErrLong},
		{nine + "\x7f", 0, 0, 0, api.ErrLong},
		{strings.Repeat("\x80", 30), 20, 0, 0, api.ErrLong},
		{strings.Repeat("\x80", 30), 21, 0, 0, api.ErrShort},
		// A last digit of 0 behind others.
		{"\x80\x00", 0, 0, 0, api.ErrSpare},
		{"\xff\x00", 0, 0, 0, api.ErrSpare},
		{"\x01\x81\x80\x00\x01", 1, 0, 0, api.ErrSpare},
		{nine + "\x00", 0, 0, 0, api.ErrSpare},
	} {
		if n, end, e := num.Unvar(x.s, x.at); n != x.n || end != x.end || e != x.e {
			t.Errorf("Unvar(%q, %d) = %d, %d, %v, want %d, %d, %v", x.s, x.at, n, end, e, x.n, x.end, x.e)
		}
	}
}

func TestWhatIsWrittenIsRead(t *testing.T) {
	for _, n := range samples() {
		if got, e := num.Unbe(num.Be(n)); got != n || e != api.OK {
			t.Errorf("Unbe(Be(%d)) = %d, %v", n, got, e)
		}
		for width := 1; width <= 8; width++ {
			s, e := num.Le(n, width)
			if e != api.OK {
				continue
			}
			if got, e := num.Unle(s); got != n || e != api.OK {
				t.Errorf("Unle(Le(%d, %d)) = %d, %v", n, width, got, e)
			}
		}
		s := num.Var(n)
		for _, ahead := range []string{"", "\x00", "\xff\xff"} {
			for _, behind := range []string{"", "\x00", "\x80", s} {
				got, end, e := num.Unvar(ahead+s+behind, len(ahead))
				if got != n || end != len(ahead+s) || e != api.OK {
					t.Errorf("Unvar(%q, Var(%d), %q) = %d, %d, %v", ahead, n, behind, got, end, e)
				}
			}
		}
	}
}

func TestNothingElseIsRead(t *testing.T) {
	for _, s := range texts() {
		n, e := num.Unbe(s)
		if e == api.OK && num.Be(n) != s {
			t.Errorf("Unbe(%q) = %d, whose bytes are others", s, n)
		}
		if e != api.OK && n != 0 {
			t.Errorf("Unbe(%q) = %d beside %v", s, n, e)
		}
		n, e = num.Unle(s)
		if again, f := num.Le(n, len(s)); e == api.OK && (again != s || f != api.OK) {
			t.Errorf("Unle(%q) = %d, whose bytes are others", s, n)
		}
		if e != api.OK && n != 0 {
			t.Errorf("Unle(%q) = %d beside %v", s, n, e)
		}
		n, end, e := num.Unvar(s, 0)
		if e == api.OK && num.Var(n) != s[:end] {
			t.Errorf("Unvar(%q) = %d, whose digits are others", s, n)
		}
		if e != api.OK && (n != 0 || end != 0) {
			t.Errorf("Unvar(%q) = %d, %d beside %v", s, n, end, e)
		}
	}
}

func TestNoVarBeginsAnother(t *testing.T) {
	l := samples()
	for _, a := range l {
		for _, b := range l {
			if a != b && strings.HasPrefix(num.Var(a), num.Var(b)) {
				t.Errorf("Var(%d) begins with Var(%d)", a, b)
			}
		}
	}
}
