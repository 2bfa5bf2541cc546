package word_test

import (
	"math/big"
	"math/rand"
	"strings"
	"testing"

	"rescript/api"
	"rescript/word"
)

const top = 1<<64 - 1

var most = api.Word{top, top, top, top}

// edges are words around each border between parts, with all that lies about them.
func edges() []api.Word {
	l := []api.Word{{}, {1}, {2}, {127}, {128}, {255}, {256}, {258}, {1 << 63}, {top - 1}, {top}, most, {top - 1, top, top, top}}
	for i := 1; i < 4; i++ {
		var one, below, high api.Word
		one[i], high[i] = 1, 1<<63
		for j := range i {
			below[j] = top
		}
		more := one
		more[0] = 1
		l = append(l, one, below, more, high)
	}
	return l
}

// samples are the edges and words that look like chance, the same in each run.
func samples() []api.Word {
	l := edges()
	r := rand.New(rand.NewSource(1))
	for range 60 {
		var w api.Word
		for i := range 1 + r.Intn(4) {
			w[i] = r.Uint64() >> r.Intn(64)
		}
		l = append(l, w)
	}
	return l
}

// value is the number that a word is, worked out without package word.
func value(w api.Word) *big.Int {
	n := new(big.Int)
	for i := 3; i >= 0; i-- {
		n.Lsh(n, 64)
		n.Or(n, new(big.Int).SetUint64(w[i]))
	}
	return n
}

func limit() *big.Int { return new(big.Int).Lsh(big.NewInt(1), 256) }

func TestOf(t *testing.T) {
	for _, n := range []uint64{0, 1, 255, 256, 1 << 63, top} {
		if got := word.Of(n); got != (api.Word{n, 0, 0, 0}) {
			t.Errorf("Of(%d) = %v", n, got)
		}
	}
}

func TestAdd(t *testing.T) {
	for _, a := range samples() {
		for _, b := range samples() {
			want := new(big.Int).Add(value(a), value(b))
			got, e := word.Add(a, b)
			if want.Cmp(limit()) >= 0 {
				if e != api.ErrOver || got != (api.Word{}) {
					t.Errorf("Add(%v, %v) = %v, %v, want ErrOver and 0", a, b, got, e)
				}
			} else if e != api.OK || value(got).Cmp(want) != 0 {
				t.Errorf("Add(%v, %v) = %v, %v, want %v", a, b, got, e, want)
			}
		}
	}
}

func TestAddAtTheLimit(t *testing.T) {
	half := api.Word{0, 0, 0, 1 << 63}
	for _, x := range []struct {
		a, b, sum api.Word
		e         api.Errno
	}{
		{most, api.Word{}, most, api.OK},
		{api.Word{top - 1, top, top, top}, word.Of(1), most, api.OK},
		{most, word.Of(1), api.Word{}, api.ErrOver},
		{word.Of(1), most, api.Word{}, api.ErrOver},
		{most, most, api.Word{}, api.ErrOver},
		{half, half, api.Word{}, api.ErrOver},
		{half, api.Word{top, top, top, 1<<63 - 1}, most, api.OK},
		{word.Of(top), word.Of(1), api.Word{0, 1}, api.OK},
		{api.Word{top, top, top}, word.Of(1), api.Word{0, 0, 0, 1}, api.OK},
	} {
		if sum, e := word.Add(x.a, x.b); sum != x.sum || e != x.e {
			t.Errorf("Add(%v, %v) = %v, %v, want %v, %v", x.a, x.b, sum, e, x.sum, x.e)
		}
	}
}

func TestSub(t *testing.T) {
	for _, a := range samples() {
		for _, b := range samples() {
			want := new(big.Int).Sub(value(a), value(b))
			got, e := word.Sub(a, b)
			if want.Sign() < 0 {
				if e != api.ErrOver || got != (api.Word{}) {
					t.Errorf("Sub(%v, %v) = %v, %v, want ErrOver and 0", a, b, got, e)
				}
			} else if e != api.OK || value(got).Cmp(want) != 0 {
				t.Errorf("Sub(%v, %v) = %v, %v, want %v", a, b, got, e, want)
			}
		}
	}
}

func TestSubAtNought(t *testing.T) {
	for _, x := range []struct {
		a, b, rest api.Word
		e          api.Errno
	}{
		{api.Word{}, api.Word{}, api.Word{}, api.OK},
		{api.Word{}, word.Of(1), api.Word{}, api.ErrOver},
		{api.Word{}, most, api.Word{}, api.ErrOver},
		{api.Word{top - 1, top, top, top}, most, api.Word{}, api.ErrOver},
		{most, most, api.Word{}, api.OK},
		{api.Word{0, 0, 0, 1}, word.Of(1), api.Word{top, top, top}, api.OK},
		{api.Word{top, 0, 0, 1}, api.Word{0, 0, 0, 2}, api.Word{}, api.ErrOver},
	} {
		if rest, e := word.Sub(x.a, x.b); rest != x.rest || e != x.e {
			t.Errorf("Sub(%v, %v) = %v, %v, want %v, %v", x.a, x.b, rest, e, x.rest, x.e)
		}
	}
}

func TestSumLessOnePartIsTheOther(t *testing.T) {
	for _, a := range samples() {
		for _, b := range samples() {
			sum, e := word.Add(a, b)
			if e != api.OK {
				continue
			}
			if got, e := word.Sub(sum, a); got != b || e != api.OK {
				t.Errorf("(%v + %v) - the first = %v, %v", a, b, got, e)
			}
			if got, e := word.Sub(sum, b); got != a || e != api.OK {
				t.Errorf("(%v + %v) - the second = %v, %v", a, b, got, e)
			}
		}
	}
}

func TestLess(t *testing.T) {
	for _, a := range samples() {
		for _, b := range samples() {
			want := value(a).Cmp(value(b)) < 0
			if got := word.Less(a, b); got != want {
				t.Errorf("Less(%v, %v) = %v", a, b, got)
			}
		}
	}
}

func TestLessLooksAtTheHighestPartFirst(t *testing.T) {
	for i := 1; i < 4; i++ {
		var high, low api.Word
		high[i] = 1
		for j := range i {
			low[j] = top
		}
		if !word.Less(low, high) || word.Less(high, low) {
			t.Errorf("part %d does not outweigh those below it", i)
		}
	}
	if word.Less(most, most) || word.Less(api.Word{}, api.Word{}) {
		t.Error("a word is below itself")
	}
}

func TestBytes(t *testing.T) {
	for _, w := range samples() {
		if got, want := word.Bytes(w), string(value(w).Bytes()); got != want {
			t.Errorf("Bytes(%v) = %q, want %q", w, got, want)
		}
	}
	for _, x := range []struct {
		w    api.Word
		want string
	}{
		{word.Of(0), ""},
		{word.Of(258), "\x01\x02"},
		{word.Of(256), "\x01\x00"},
		{api.Word{2, 1}, "\x01\x00\x00\x00\x00\x00\x00\x00\x02"},
		{most, strings.Repeat("\xff", 32)},
	} {
		if got := word.Bytes(x.w); got != x.want {
			t.Errorf("Bytes(%v) = %q, want %q", x.w, got, x.want)
		}
	}
}

func TestFixed(t *testing.T) {
	for _, w := range samples() {
		want := string(value(w).FillBytes(make([]byte, 32)))
		if got := word.Fixed(w); got != want {
			t.Errorf("Fixed(%v) = %q, want %q", w, got, want)
		}
	}
}

func TestWhatIsWrittenIsRead(t *testing.T) {
	for _, w := range samples() {
		if got, e := word.Parse(word.Bytes(w)); got != w || e != api.OK {
			t.Errorf("Parse(Bytes(%v)) = %v, %v", w, got, e)
		}
		if got, e := word.Unfixed(word.Fixed(w)); got != w || e != api.OK {
			t.Errorf("Unfixed(Fixed(%v)) = %v, %v", w, got, e)
		}
	}
}

func TestParse(t *testing.T) {
	for _, x := range []struct {
		s string
		w api.Word
		e api.Errno
	}{
		{"", api.Word{}, api.OK},
		{"\x01", word.Of(1), api.OK},
		{"\x01\x02", word.Of(258), api.OK},
		{strings.Repeat("\xff", 8), word.Of(top), api.OK},
		{"\x01" + strings.Repeat("\x00", 8), api.Word{0, 1}, api.OK},
		{"\x01" + strings.Repeat("\x00", 31), api.Word{0, 0, 0, 1 << 56}, api.OK},
		{strings.Repeat("\xff", 32), most, api.OK},
		{"\x00", api.Word{}, api.ErrSpare},
		{"\x00\x01", api.Word{}, api.ErrSpare},
		{"\x00" + strings.Repeat("\x01", 31), api.Word{}, api.ErrSpare},
		{strings.Repeat("\x00", 32), api.Word{}, api.ErrSpare},
		{strings.Repeat("\x01", 33), api.Word{}, api.ErrLong},
		{strings.Repeat("\x00", 33), api.Word{}, api.ErrLong},
		{"\x00" + strings.Repeat("\xff", 32), api.Word{}, api.ErrLong},
		{strings.Repeat("\x01", 1000), api.Word{}, api.ErrLong},
	} {
		if w, e := word.Parse(x.s); w != x.w || e != x.e {
			t.Errorf("Parse(%q) = %v, %v, want %v, %v", x.s, w, e, x.w, x.e)
		}
	}
}

func TestUnfixed(t *testing.T) {
	for _, x := range []struct {
		s string
		w api.Word
		e api.Errno
	}{
		{strings.Repeat("\x00", 32), api.Word{}, api.OK},
		{strings.Repeat("\x00", 30) + "\x01\x02", word.Of(258), api.OK},
		{strings.Repeat("\xff", 32), most, api.OK},
		{"\x01" + strings.Repeat("\x00", 31), api.Word{0, 0, 0, 1 << 56}, api.OK},
		{"", api.Word{}, api.ErrForm},
		{"\x01", api.Word{}, api.ErrForm},
		{strings.Repeat("\x01", 31), api.Word{}, api.ErrForm},
		{strings.Repeat("\x01", 33), api.Word{}, api.ErrForm},
		{strings.Repeat("\x01", 64), api.Word{}, api.ErrForm},
	} {
		if w, e := word.Unfixed(x.s); w != x.w || e != x.e {
			t.Errorf("Unfixed(%q) = %v, %v, want %v, %v", x.s, w, e, x.w, x.e)
		}
	}
}

// texts are of each length up to past two words, with and without zeros ahead.
func texts() []string {
	r := rand.New(rand.NewSource(2))
	var l []string
	for n := range 70 {
		for zeros := range 3 {
			b := make([]byte, n)
			for i := min(zeros, n); i < n; i++ {
				b[i] = byte(r.Intn(256))
			}
			l = append(l, string(b))
		}
	}
	return l
}

func TestNothingElseIsRead(t *testing.T) {
	for _, s := range texts() {
		w, e := word.Parse(s)
		if e == api.OK && word.Bytes(w) != s {
			t.Errorf("Parse(%q) = %v, whose bytes are others", s, w)
		}
		if e != api.OK && w != (api.Word{}) {
			t.Errorf("Parse(%q) = %v beside %v", s, w, e)
		}
		w, e = word.Unfixed(s)
		if e == api.OK && word.Fixed(w) != s {
			t.Errorf("Unfixed(%q) = %v, whose bytes are others", s, w)
		}
		if e != api.OK && w != (api.Word{}) {
			t.Errorf("Unfixed(%q) = %v beside %v", s, w, e)
		}
	}
}

func TestSmall(t *testing.T) {
	for _, x := range []struct {
		w  api.Word
		n  uint64
		ok bool
	}{
		{api.Word{}, 0, true},
		{word.Of(1), 1, true},
		{word.Of(top - 1), top - 1, true},
		{word.Of(top), top, true},
		{api.Word{0, 1}, 0, false},
		{api.Word{5, 1}, 0, false},
		{api.Word{5, 0, 1}, 0, false},
		{api.Word{5, 0, 0, 1}, 0, false},
		{most, 0, false},
	} {
		if n, ok := word.Small(x.w); n != x.n || ok != x.ok {
			t.Errorf("Small(%v) = %d, %v, want %d, %v", x.w, n, ok, x.n, x.ok)
		}
	}
}
