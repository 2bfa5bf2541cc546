package receipt_test

import (
	"encoding/hex"
	"math"
	"math/rand"
	"reflect"
	"slices"
	"strings"
	"testing"
	"unsafe"

	"rescript/api"
	"rescript/receipt"
)

// holdCheck, holdForm, holdEncode and holdDecode hold the calls against the sentences.
func holdCheck(t *testing.T, x api.Receipt) api.Errno {
	t.Helper()
	got, want := receipt.Check(x), checkOf(x)
	if got != want {
		t.Errorf("Check(%v) = %v, want %v", brief(x), got, want)
	}
	return got
}

func holdForm(t *testing.T, x api.Receipt) int {
	t.Helper()
	got, want := receipt.Form(x), formOf(x)
	if got != want {
		t.Errorf("Form(%v) = %d, want %d", brief(x), got, want)
	}
	return got
}

func holdEncode(t *testing.T, x api.Receipt) (string, api.Errno) {
	t.Helper()
	want, e := encodeOf(x)
	got, found := receipt.Encode(x)
	if got != want || found != e {
		t.Errorf("Encode(%v) = %.100x, %v, want %.100x, %v", brief(x), got, found, want, e)
	}
	return got, found
}

func holdDecode(t *testing.T, s string) (api.Receipt, api.Errno) {
	t.Helper()
	want, e := decodeOf(s)
	got, found := receipt.Decode(s)
	if !same(got, want) || found != e {
		t.Errorf("Decode(%.100x) = %v, %v, want %v, %v", s, brief(got), found, brief(want), e)
	}
	if found != api.OK {
		return got, found
	}
	if again, e := receipt.Encode(got); again != s || e != api.OK {
		t.Errorf("%.100x is decoded, and encoded as %.100x, %v", s, again, e)
	}
	return got, found
}

// holdBack holds that a receipt is one, and that what is encoded of it is decoded, part by part.
func holdBack(t *testing.T, x api.Receipt) {
	t.Helper()
	if e := holdCheck(t, x); e != api.OK {
		t.Errorf("Check(%v) = %v", brief(x), e)
	}
	s, e := holdEncode(t, x)
	if e != api.OK {
		t.Errorf("Encode(%v) tells %v", brief(x), e)
	}
	if got, e := holdDecode(t, s); e != api.OK || !same(got, x) || !receipt.Same(got, x) {
		t.Errorf("%v is decoded as %v, %v", brief(x), brief(got), e)
	}
}

// holdNone holds that a receipt is none, and that nothing is told of it beside that.
func holdNone(t *testing.T, x api.Receipt, want api.Errno) {
	t.Helper()
	if e := holdCheck(t, x); e != want {
		t.Errorf("Check(%v) = %v, want %v", brief(x), e, want)
	}
	if s, e := holdEncode(t, x); s != "" || e != want {
		t.Errorf("Encode(%v) = %.100x, %v, want %v", brief(x), s, e, want)
	}
}

func TestBytesAtTheEdges(t *testing.T) {
	addr, topic := strings.Repeat("ab", 20), strings.Repeat("ab", 32)
	said := []api.Log{{Addr: ab(20), Topics: topics(2), Data: "\x05"}}
	for _, x := range []struct {
		name string
		own  api.Receipt
		code string
	}{
		{"the chapter's example", api.Receipt{}, "c3 80 80 c0"},
		{"a legacy one that did not fail", api.Receipt{Status: true}, "c3 01 80 c0"},
		{"a legacy one of gas", api.Receipt{Gas: 21000}, "c5 80 82 52 08 c0"},
		{"a legacy one of much gas", api.Receipt{Status: true, Gas: math.MaxUint64}, "cb 01 88 ff ff ff ff ff ff ff ff c0"},
		{"an access one", api.Receipt{Kind: 1}, "01 c3 80 80 c0"},
		{"a fee one", api.Receipt{Kind: 2, Gas: 127}, "02 c3 80 7f c0"},
		{"a code one", api.Receipt{Kind: 4, Gas: 128}, "04 c4 80 81 80 c0"},
		{"a deposit of form 0", api.Receipt{Kind: 126}, "7e c3 80 80 c0"},
		{"a deposit of form 1", api.Receipt{Kind: 126, Full: true}, "7e c4 80 80 c0 80"},
		{"a deposit of form 1, of a nonce", api.Receipt{Kind: 126, Full: true, Nonce: 300}, "7e c6 80 80 c0 82 01 2c"},
		{"a deposit of form 2", api.Receipt{Kind: 126, Full: true, Version: 1}, "7e c5 80 80 c0 80 01"},
		{"a deposit of form 2, of a nonce", api.Receipt{Kind: 126, Status: true, Gas: 2, Full: true, Nonce: 3, Version: 1}, "7e c5 01 02 c0 03 01"},
		{"a log of little", api.Receipt{Logs: logs(1)}, "db 80 80 d8 d7 94" + addr + "c0 80"},
		{"a log in order", api.Receipt{Kind: 1, Status: true, Gas: 2, Logs: said}, "01 f8 60 01 02 f8 5c f8 5a 94" + addr + "f8 42 a0" + topic + "a0" + topic + "05"},
		{
			"two logs of a deposit", api.Receipt{Kind: 126, Logs: append(logs(1), said...), Full: true, Nonce: 7, Version: 1},
			"7e f8 7a 80 80 f8 74 d7 94" + addr + "c0 80 f8 5a 94" + addr + "f8 42 a0" + topic + "a0" + topic + "05 07 01",
		},
	} {
		want, err := hex.DecodeString(strings.ReplaceAll(x.code, " ", ""))
		if err != nil {
			t.Fatal(err)
		}
		if s, e := holdEncode(t, x.own); s != string(want) || e != api.OK {
			t.Errorf("%s: Encode is %x, %v", x.name, s, e)
		}
		if got, e := holdDecode(t, string(want)); !same(got, x.own) || e != api.OK {
			t.Errorf("%s: Decode is %v, %v", x.name, got, e)
		}
	}
}

func TestEachKindAndForm(t *testing.T) {
	for _, x := range formed() {
		holdForm(t, x)
		holdBack(t, x)
	}
}

// Form looks at Full and Version alone.
func TestForm(t *testing.T) {
	for _, x := range []struct {
		full    bool
		version uint64
		form    int
	}{
		{false, 0, 0},
		{false, 1, 0},
		{false, 2, 0},
		{false, math.MaxUint64, 0},
		{true, 0, 1},
		{true, 1, 2},
		{true, 2, 2},
		{true, 1 << 32, 2},
		{true, math.MaxUint64, 2},
	} {
		for _, kind := range append(kindsAre(), -1, 3, 127) {
			for _, own := range []api.Receipt{plainOf(kind), fullOf(kind), {Kind: kind, Nonce: 1, Logs: logs(17)}} {
				own.Full, own.Version = x.full, x.version
				if got := holdForm(t, own); got != x.form {
					t.Errorf("Form(%v) = %d, want %d", own, got, x.form)
				}
			}
		}
	}
}

func TestNumbersAtTheEdges(t *testing.T) {
	for shift := range 64 {
		for _, n := range []uint64{1<<shift - 1, 1 << shift, 1<<shift + 1, math.MaxUint64 - 1<<shift} {
			for _, kind := range kindsAre() {
				holdBack(t, api.Receipt{Kind: kind, Gas: n})
			}
			for version := range uint64(2) {
				holdBack(t, api.Receipt{Kind: 126, Gas: ^n, Full: true, Nonce: n, Version: version})
			}
		}
	}
}

func TestCheckOfKinds(t *testing.T) {
	for kind := -300; kind <= 600; kind++ {
		x := plainOf(kind)
		want := api.ErrKind
		if slices.Contains(kindsAre(), kind) {
			want = api.OK
		}
		if e := holdCheck(t, x); e != want {
			t.Errorf("kind %d: %v", kind, e)
		}
	}
	// Whatever else is wrong with it, and however near it is to one that is.
	for _, kind := range []int{3, 5, 125, 127, 128, 192, 256, 256 + 1, 256 + 126, 1<<32 + 2, math.MinInt, math.MaxInt, -1, -126} {
		holdNone(t, plainOf(kind), api.ErrKind)
		holdNone(t, api.Receipt{Kind: kind, Logs: logs(17), Full: true, Version: 2}, api.ErrKind)
		holdNone(t, api.Receipt{Kind: kind, Logs: []api.Log{{}}, Nonce: 1}, api.ErrKind)
	}
}

// A change of a receipt, and what Check tells then.
type changed struct {
	name   string
	e      api.Errno
	change func(x *api.Receipt)
}

// counts are the edges of how much there may be.
func counts() []changed {
	var all []changed
	told := func(ok bool, e api.Errno) api.Errno {
		if ok {
			return api.OK
		}
		return e
	}
	add := func(name string, e api.Errno, change func(x *api.Receipt)) {
		all = append(all, changed{name, e, change})
	}
	for _, n := range []int{0, 1, 15, 16, 17, 18, 512, 513} {
		add("logs", told(n <= 16, api.ErrLong), func(x *api.Receipt) { x.Logs = logs(n) })
	}
	for _, n := range []int{0, 1, 3, 4, 5, 6, 513} {
		add("topics", told(n <= 4, api.ErrLong), func(x *api.Receipt) { x.Logs = append(logs(2), api.Log{Addr: ab(20), Topics: topics(n)}) })
		add("topics of the first", told(n <= 4, api.ErrLong), func(x *api.Receipt) {
			x.Logs = logs(16)
			x.Logs[0].Topics = topics(n)
		})
	}
	for _, n := range []int{0, 1, 55, 56, 255, 256, 4095, 4096, 4097, 65536} {
		add("data", told(n <= 4096, api.ErrLong), func(x *api.Receipt) { x.Logs = append(logs(2), api.Log{Addr: ab(20), Data: ab(n)}) })
		add("data of the first", told(n <= 4096, api.ErrLong), func(x *api.Receipt) {
			x.Logs = logs(16)
			x.Logs[0].Data = ab(n)
		})
	}
	for _, n := range []int{0, 1, 19, 20, 21, 32, 40, 276} {
		add("address", told(n == 20, api.ErrForm), func(x *api.Receipt) { x.Logs = []api.Log{{Addr: ab(n)}} })
		add("last address", told(n == 20, api.ErrForm), func(x *api.Receipt) { x.Logs = append(logs(15), api.Log{Addr: ab(n)}) })
	}
	for _, n := range []int{0, 1, 20, 31, 32, 33, 64, 288} {
		add("topic", told(n == 32, api.ErrForm), func(x *api.Receipt) { x.Logs = append(logs(1), api.Log{Addr: ab(20), Topics: []string{ab(n)}}) })
		add("last topic", told(n == 32, api.ErrForm), func(x *api.Receipt) {
			x.Logs = append(logs(1), api.Log{Addr: ab(20), Topics: append(topics(3), ab(n))})
		})
	}
	return all
}

func TestHowMuchThereIs(t *testing.T) {
	for _, x := range counts() {
		for _, own := range formed() {
			own = with(own, x.change)
			if x.e == api.OK {
				holdBack(t, own)
				continue
			}
			holdNone(t, own, x.e)
		}
	}
}

// Full, Nonce and Version, of each kind.
func TestWhatMayBeFull(t *testing.T) {
	for _, kind := range kindsAre() {
		for _, full := range []bool{false, true} {
			for _, nonce := range []uint64{0, 1, 300, 1 << 63, math.MaxUint64} {
				// A number has no sign: what is below 0 goes round to the greatest ones.
				for _, version := range []uint64{0, 1, 2, 3, 256, 1 << 32, 1<<32 + 1, 1 << 63, math.MaxUint64 - 1, math.MaxUint64} {
					x := fullOf(kind)
					x.Full, x.Nonce, x.Version = full, nonce, version
					if full && kind == api.TxDeposit && version < 2 || !full && nonce == 0 && version == 0 {
						holdBack(t, x)
						continue
					}
					holdNone(t, x, api.ErrForm)
				}
			}
		}
	}
}

// forms and longs are all that may be wrong with one of a kind, each alone.
func forms(kind int) []changed {
	all := []changed{
		{"an address of 19", api.ErrForm, func(x *api.Receipt) { x.Logs = append(x.Logs, api.Log{Addr: ab(19)}) }},
		{"an address of none", api.ErrForm, func(x *api.Receipt) { x.Logs = append([]api.Log{{}}, x.Logs...) }},
		{"a topic of 33", api.ErrForm, func(x *api.Receipt) {
			x.Logs = append(x.Logs, api.Log{Addr: ab(20), Topics: append(topics(5), ab(33))})
		}},
		{"a version that is none", api.ErrForm, func(x *api.Receipt) { x.Full, x.Version = true, 2 }},
		{"a nonce of one that is not full", api.ErrForm, func(x *api.Receipt) { x.Full, x.Nonce, x.Version = false, 1, 0 }},
		{"a version of one that is not full", api.ErrForm, func(x *api.Receipt) { x.Full, x.Nonce, x.Version = false, 0, 1 }},
	}
	if kind != api.TxDeposit {
		all = append(all, changed{"full", api.ErrForm, func(x *api.Receipt) { x.Full = true }})
	}
	return all
}

func longs() []changed {
	return []changed{
		{"17 logs", api.ErrLong, func(x *api.Receipt) { x.Logs = logs(17) }},
		{"5 topics", api.ErrLong, func(x *api.Receipt) { x.Logs = []api.Log{{Addr: ab(20), Topics: topics(5)}} }},
		{"4097 bytes", api.ErrLong, func(x *api.Receipt) { x.Logs = []api.Log{{Addr: ab(20), Data: ab(4097)}} }},
	}
}

// All that is of no form comes ahead of all that is too long.
func TestCheckInItsOrder(t *testing.T) {
	for _, own := range formed() {
		for _, form := range forms(own.Kind) {
			holdNone(t, with(own, form.change), api.ErrForm)
			for _, long := range longs() {
				holdNone(t, with(own, long.change), api.ErrLong)
				holdNone(t, with(with(own, long.change), form.change), api.ErrForm)
			}
		}
	}
}

// sized is a receipt with so many bytes behind its head.
func sized(t *testing.T, x api.Receipt, n int) api.Receipt {
	t.Helper()
	x.Logs = slices.Repeat([]api.Log{{Addr: ab(20), Topics: topics(4), Data: ab(4096)}}, 16)
	last := &x.Logs[15]
	for len(last.Data) > 0 {
		s, e := encodeOf(x)
		more := len(s) - len(headOf(x.Kind)) - n
		if e == api.OK && more == 0 {
			return x
		}
		// Not all at once: with what is listed the heads get shorter too.
		last.Data = last.Data[:len(last.Data)-max(more-8, 1)]
	}
	t.Fatalf("none has %d bytes", n)
	return x
}

// One may have more bytes than may be decoded: it is encoded all the same.
func TestTheMostBytes(t *testing.T) {
	for _, own := range formed() {
		for _, n := range []int{65530, 65535, api.MaxBytes} {
			holdBack(t, sized(t, own, n))
		}
		// There is no list of 65539 bytes: from 65536 bytes of its own on its head has one more.
		for _, n := range []int{api.MaxBytes + 1, api.MaxBytes + 2, api.MaxBytes + 4, 65600, 68000} {
			x := sized(t, own, n)
			if e := holdCheck(t, x); e != api.OK {
				t.Errorf("%d bytes: %v", n, e)
			}
			s, e := holdEncode(t, x)
			if len(s) != n+len(headOf(x.Kind)) || e != api.OK {
				t.Errorf("%d bytes: %d are encoded, %v", n, len(s), e)
			}
			if got, e := holdDecode(t, s); e != api.ErrLong || !same(got, api.Receipt{}) {
				t.Errorf("%d bytes are decoded as %v, %v", n, brief(got), e)
			}
		}
	}
	all := fullOf(126)
	all.Gas, all.Nonce = math.MaxUint64, math.MaxUint64
	all.Logs = slices.Repeat([]api.Log{{Addr: ab(20), Topics: topics(4), Data: ab(4096)}}, 16)
	// 16 logs of 3 and 4254 bytes, with a head of 4; beside them 1, 9, 9 and 1, and a head of 4.
	if s, e := holdEncode(t, all); len(s) != 1+4+20+4+16*4257 || e != api.OK {
		t.Errorf("all that may be is %d bytes, %v", len(s), e)
	}
}

func TestSame(t *testing.T) {
	for _, x := range formed() {
		if !receipt.Same(x, copyOf(x)) || !receipt.Same(x, x) {
			t.Errorf("%v is not as it is", x)
		}
		for name, own := range differing(x) {
			if receipt.Same(x, own) || receipt.Same(own, x) {
				t.Errorf("%v is told alike with another %s", x, name)
			}
			if !receipt.Same(own, copyOf(own)) {
				t.Errorf("%v is not as it is", own)
			}
		}
	}
	// nil or empty is never asked.
	x, y := api.Receipt{Logs: []api.Log{}}, api.Receipt{}
	if !receipt.Same(x, y) || !receipt.Same(y, x) {
		t.Error("nil and empty are told apart")
	}
	x.Logs, y.Logs = []api.Log{{Topics: []string{}}}, []api.Log{{}}
	if !receipt.Same(x, y) || !receipt.Same(y, x) {
		t.Error("nil and empty topics are told apart")
	}
}

// differing are receipts that differ from one in one part, whatever they are.
func differing(x api.Receipt) map[string]api.Receipt {
	all := map[string]api.Receipt{}
	add := func(name string, change func(x *api.Receipt)) { all[name] = with(x, change) }
	add("Kind", func(x *api.Receipt) { x.Kind++ })
	add("Status", func(x *api.Receipt) { x.Status = !x.Status })
	add("Gas", func(x *api.Receipt) { x.Gas ^= 1 << 63 })
	add("Full", func(x *api.Receipt) { x.Full = !x.Full })
	add("Nonce", func(x *api.Receipt) { x.Nonce ^= 1 << 63 })
	add("Version", func(x *api.Receipt) { x.Version ^= 1 << 63 })
	add("log more", func(x *api.Receipt) { x.Logs = append(x.Logs, api.Log{}) })
	if len(x.Logs) == 0 {
		return all
	}
	add("log less", func(x *api.Receipt) { x.Logs = x.Logs[1:] })
	add("order of logs", func(x *api.Receipt) { slices.Reverse(x.Logs) })
	add("address", func(x *api.Receipt) { x.Logs[2].Addr = ab(20) })
	add("address, longer", func(x *api.Receipt) { x.Logs[2].Addr += "\x00" })
	add("topic more", func(x *api.Receipt) { x.Logs[2].Topics = topics(1) })
	add("topic less", func(x *api.Receipt) { x.Logs[1].Topics = nil })
	add("topic", func(x *api.Receipt) { x.Logs[0].Topics[1] = ab(32) })
	add("order of topics", func(x *api.Receipt) { slices.Reverse(x.Logs[0].Topics) })
	add("data", func(x *api.Receipt) { x.Logs[2].Data = "\x00" })
	add("data, longer", func(x *api.Receipt) { x.Logs[0].Data += "\x00" })
	return all
}

// Receipts of all sorts: what is encoded is decoded, no two alike, and what was spoiled is told.
func TestAllSortsThereAndBack(t *testing.T) {
	seen := map[api.Errno]int{}
	codes := map[string]api.Receipt{}
	samples(1, func(r *rand.Rand, x api.Receipt) {
		for range 4 {
			holdForm(t, x)
			e := holdCheck(t, x)
			seen[e]++
			s, found := holdEncode(t, x)
			if found != e {
				t.Errorf("Encode(%v) tells %v, Check %v", brief(x), found, e)
			}
			if e != api.OK && s != "" {
				t.Errorf("beside %v the text is %.100x", e, s)
			}
			if e == api.OK && len(s)-len(headOf(x.Kind)) <= api.MaxBytes {
				holdBack(t, x)
				if other, ok := codes[s]; ok && !same(x, other) {
					t.Errorf("%v and %v have the same bytes", brief(x), brief(other))
				}
				codes[s] = x
			}
			x = copyOf(x)
			spoil(r, &x)
		}
	})
	for _, e := range []api.Errno{api.OK, api.ErrForm, api.ErrLong, api.ErrKind} {
		if seen[e] < 100 {
			t.Errorf("only %d are told %v", seen[e], e)
		}
	}
}

func TestSamplesAreAlikeOrNot(t *testing.T) {
	last := map[int]api.Receipt{}
	samples(2, func(r *rand.Rand, x api.Receipt) {
		other := copyOf(x)
		spoil(r, &other)
		for _, y := range []api.Receipt{x, other, last[x.Kind]} {
			if got := receipt.Same(x, y); got != same(x, y) {
				t.Errorf("Same(%v, %v) = %v", brief(x), brief(y), got)
			}
		}
		last[x.Kind] = x
	})
}

// standsIn tells whether a text stands in memory of another one.
func standsIn(s, all string) bool {
	own, first := uintptr(unsafe.Pointer(unsafe.StringData(s))), uintptr(unsafe.Pointer(unsafe.StringData(all)))
	return s != "" && first <= own && own < first+uintptr(len(all))
}

// textsOf are all texts of a receipt.
func textsOf(x api.Receipt) []string {
	var all []string
	for _, l := range x.Logs {
		all = append(append(all, l.Addr, l.Data), l.Topics...)
	}
	return all
}

func TestAnswersShareNothingWithArguments(t *testing.T) {
	for _, x := range formed() {
		s, e := receipt.Encode(x)
		kept := strings.Clone(s)
		if e != api.OK {
			t.Fatal(e)
		}
		for _, own := range textsOf(x) {
			if standsIn(s, own) || standsIn(own, s) {
				t.Errorf("%v: the bytes share memory with %q", x, own)
			}
		}
		got, _ := receipt.Decode(s)
		for _, own := range textsOf(got) {
			if standsIn(own, s) {
				t.Errorf("%v: %q stands in the argument's memory", x, own)
			}
		}
		for i := range x.Logs {
			clear(x.Logs[i].Topics)
		}
		clear(x.Logs)
		if s != kept {
			t.Errorf("%v: the bytes change with the receipt", x)
		}
		want := copyOf(got)
		again, _ := receipt.Decode(s)
		for i := range again.Logs {
			clear(again.Logs[i].Topics)
			_ = append(again.Logs[i].Topics, "changed")
		}
		clear(again.Logs)
		if !same(got, want) {
			t.Errorf("%v: two answers share memory", x)
		}
	}
}

// No two lists of an answer stand in the same memory, what is behind their ends too.
func TestListsOfAnAnswerShareNothing(t *testing.T) {
	held := 0
	samples(3, func(_ *rand.Rand, x api.Receipt) {
		s, _ := receipt.Encode(x)
		got, _ := receipt.Decode(s)
		at := map[*string]int{}
		for _, l := range got.Logs {
			own := l.Topics[:cap(l.Topics)]
			for i := range own {
				at[&own[i]]++
				held++
			}
		}
		for p, n := range at {
			if n > 1 {
				t.Errorf("%d topics stand where %q does", n, *p)
			}
		}
	})
	if held < 1000 {
		t.Errorf("only %d topics are held", held)
	}
}

// No call changes an argument, and each tells the same again.
func TestArgumentsStayAndAnswersToo(t *testing.T) {
	samples(4, func(r *rand.Rand, x api.Receipt) {
		if r.Intn(2) == 0 {
			spoil(r, &x)
		}
		before := copyOf(x)
		e1 := receipt.Check(x)
		form := receipt.Form(x)
		s, e2 := receipt.Encode(x)
		got, e3 := receipt.Decode(s)
		alike := receipt.Same(x, got)
		if !reflect.DeepEqual(x, before) {
			t.Fatalf("%v is changed to %v", brief(before), brief(x))
		}
		f1 := receipt.Check(before)
		again, f2 := receipt.Encode(before)
		and, f3 := receipt.Decode(again)
		if s != again || !same(got, and) || form != receipt.Form(before) || alike != receipt.Same(before, and) || e1 != f1 || e2 != f2 || e3 != f3 {
			t.Errorf("%v is told otherwise the second time", brief(x))
		}
	})
	// What is behind a list's end is neither read nor changed.
	l, own := append(logs(1), api.Log{Addr: "none"}), append(topics(1), "none")
	l[0].Topics = own[:1]
	x := api.Receipt{Logs: l[:1]}
	holdBack(t, x)
	if l[1].Addr != "none" || own[1] != "none" {
		t.Error(l, own)
	}
}

// nil or empty is never asked.
func TestListsWithoutThingsAreNilOrEmpty(t *testing.T) {
	for _, kind := range kindsAre() {
		x := plainOf(kind)
		want, _ := receipt.Encode(x)
		x.Logs = []api.Log{}
		if s, e := holdEncode(t, x); s != want || e != api.OK {
			t.Errorf("kind %d: %x, %v", kind, s, e)
		}
		x.Logs = logs(1)
		want, _ = receipt.Encode(x)
		x.Logs[0].Topics = []string{}
		if s, e := holdEncode(t, x); s != want || e != api.OK {
			t.Errorf("kind %d: %x, %v", kind, s, e)
		}
	}
}

// Whatever they are given, all calls end, and tell nothing beside an error.
func TestAllEndsAtAllArguments(t *testing.T) {
	huge := logs(1 << 16)
	for i := range huge {
		huge[i].Topics = topics(3)
	}
	for _, kind := range append(kindsAre(), -1, 3, math.MinInt, math.MaxInt) {
		for _, x := range []api.Receipt{
			{Kind: kind, Logs: huge},
			{Kind: kind, Logs: []api.Log{{Addr: ab(20), Data: ab(1 << 24)}}},
			{Kind: kind, Logs: []api.Log{{Addr: ab(1 << 20), Topics: []string{ab(1 << 20)}}}},
			{Kind: kind, Logs: []api.Log{{Addr: ab(20), Topics: topics(1 << 16)}}},
			{Kind: kind, Status: true, Gas: math.MaxUint64, Full: true, Nonce: math.MaxUint64, Version: math.MaxUint64},
		} {
			e := holdCheck(t, x)
			if s, found := receipt.Encode(x); e == api.OK || found != e || s != "" {
				t.Errorf("kind %d: %.100x, %v, %v", kind, s, found, e)
			}
			holdForm(t, x)
			if !receipt.Same(x, x) {
				t.Errorf("kind %d: it is not as it is", kind)
			}
		}
	}
	for b := range 256 {
		for _, n := range []int{1, 2, 3, 100, 65535, 65536, 65537, 65538, 1 << 20} {
			s := strings.Repeat(string([]byte{byte(b)}), n)
			holdDecode(t, s)
			for _, kind := range kindsAre() {
				holdDecode(t, headOf(kind)+s)
			}
		}
	}
}
