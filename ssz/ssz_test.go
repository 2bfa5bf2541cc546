package ssz_test

import (
	"maps"
	"math"
	"math/rand"
	"slices"
	"strings"
	"testing"

	"rescript/api"
	"rescript/shape"
	"rescript/ssz"
)

// zeros are so many bytes.
func zeros(n int) string { return strings.Repeat("\x00", n) }

// holdPut holds Put against the sentences.
func holdPut(t *testing.T, typ api.Type, v api.Val) (string, api.Errno) {
	t.Helper()
	want, e := putOf(typ, v)
	got, found := ssz.Put(typ, v)
	if got != want || found != e {
		t.Errorf("Put(%v, %v) = %q, %v, want %q, %v", typ, brief(v), got, found, want, e)
	}
	return got, found
}

// holdGet holds Get against the sentences.
func holdGet(t *testing.T, typ api.Type, s string) (api.Val, api.Errno) {
	t.Helper()
	want, e := getOf(typ, s)
	got, found := ssz.Get(typ, s)
	if !same(got, want) || found != e {
		t.Errorf("Get(%v, %q) = %v, %v, want %v, %v", typ, s[:min(len(s), 80)], brief(got), found, brief(want), e)
	}
	return got, found
}

func TestBytesAtTheEdges(t *testing.T) {
	most := uint64(math.MaxUint64)
	for _, x := range []struct {
		name string
		typ  api.Type
		v    api.Val
		s    string
	}{
		{"the chapter's example", bitlist(3), marks("101"), "\x0d"},
		{"0 of 1 byte", uintOf(1), num(0), "\x00"},
		{"255 of 1 byte", uintOf(1), num(255), "\xff"},
		{"258 of 2 bytes", uintOf(2), num(258), "\x02\x01"},
		{"3 of 4 bytes", uintOf(4), num(3), "\x03\x00\x00\x00"},
		{"four bytes", uintOf(4), num(0x04030201), "\x01\x02\x03\x04"},
		{"eight bytes", uintOf(8), num(0x0807060504030201), "\x01\x02\x03\x04\x05\x06\x07\x08"},
		{"2^64-1", uintOf(8), num(most), strings.Repeat("\xff", 8)},
		{"1 of 32 bytes", uintOf(32), num(1), "\x01" + zeros(31)},
		{"2^64 of 32 bytes", uintOf(32), wide(0, 1), zeros(8) + "\x01" + zeros(23)},
		{"2^248 of 32 bytes", uintOf(32), wide(0, 0, 0, 1<<56), zeros(31) + "\x01"},
		{"all parts", uintOf(32), wide(1, 2, 3, 4), "\x01" + zeros(7) + "\x02" + zeros(7) + "\x03" + zeros(7) + "\x04" + zeros(7)},
		{"2^256-1", uintOf(32), wide(most, most, most, most), strings.Repeat("\xff", 32)},
		{"no", boolean(), num(0), "\x00"},
		{"yes", boolean(), num(1), "\x01"},
		{"1 bit, no", bits(1), marks("0"), "\x00"},
		{"1 bit, yes", bits(1), marks("1"), "\x01"},
		{"3 bits", bits(3), marks("110"), "\x03"},
		{"7 bits", bits(7), marks("0000001"), "\x40"},
		{"8 bits", bits(8), marks("10000001"), "\x81"},
		{"9 bits", bits(9), marks("000000001"), "\x00\x01"},
		{"9 bits, the first one", bits(9), marks("100000000"), "\x01\x00"},
		{"16 bits", bits(16), marks("1000000000000001"), "\x01\x80"},
		{"512 bits", bits(512), ones(512), strings.Repeat("\xff", 64)},
		{"a bit list of none", bitlist(1), marks(""), "\x01"},
		{"a bit list of no", bitlist(1), marks("0"), "\x02"},
		{"a bit list of yes", bitlist(1), marks("1"), "\x03"},
		{"a bit list of 7", bitlist(9), ones(7), "\xff"},
		{"a bit list of 7, all no", bitlist(9), marks("0000000"), "\x80"},
		{"a bit list of 8", bitlist(9), ones(8), "\xff\x01"},
		{"a bit list of 8, all no", bitlist(8), marks("00000000"), "\x00\x01"},
		{"a bit list of 9", bitlist(9), marks("000000001"), "\x00\x03"},
		{"a bit list of 512", bitlist(512), ones(512), strings.Repeat("\xff", 64) + "\x01"},
		{"a bit list of 511", bitlist(512), ones(511), strings.Repeat("\xff", 64)},
		{"a vector", vector(3, uintOf(2)), row(num(1), num(2), num(258)), "\x01\x00\x02\x00\x02\x01"},
		{"a vector of vectors", vector(2, vector(2, uintOf(1))), row(row(num(1), num(2)), row(num(3), num(4))), "\x01\x02\x03\x04"},
		{"a vector of bits", vector(2, bits(9)), row(marks("100000000"), marks("010000001")), "\x01\x00\x02\x01"},
		{"a vector of containers", vector(2, container(uintOf(1), uintOf(2))), row(row(num(1), num(2)), row(num(3), num(4))), "\x01\x02\x00\x03\x04\x00"},
		{"a vector of bit lists", vector(2, bitlist(9)), row(marks("1"), marks("00000000")), "\x08\x00\x00\x00\x09\x00\x00\x00\x03\x00\x01"},
		{"a vector of a union", vector(1, union(boolean())), row(pick(0, num(1))), "\x04\x00\x00\x00\x00\x01"},
		{"a vector of empty lists", vector(2, list(1, uintOf(1))), many(2, row()), "\x08\x00\x00\x00\x08\x00\x00\x00"},
		{"a list of none", list(3, uintOf(2)), row(), ""},
		{"a list of 1", list(3, uintOf(2)), row(num(258)), "\x02\x01"},
		{"a list of all", list(3, uintOf(2)), row(num(1), num(2), num(3)), "\x01\x00\x02\x00\x03\x00"},
		{"a list of none of lists", list(2, list(2, uintOf(1))), row(), ""},
		{"a list of an empty list", list(2, list(2, uintOf(1))), row(row()), "\x04\x00\x00\x00"},
		{"a list of empty lists", list(2, list(2, uintOf(1))), row(row(), row()), "\x08\x00\x00\x00\x08\x00\x00\x00"},
		{"a list of lists", list(2, list(2, uintOf(1))), row(row(num(5)), row(num(6), num(7))), "\x08\x00\x00\x00\x09\x00\x00\x00\x05\x06\x07"},
		{"a list of lists, the first one empty", list(2, list(2, uintOf(1))), row(row(), row(num(6))), "\x08\x00\x00\x00\x08\x00\x00\x00\x06"},
		{"a list of lists, the last one empty", list(2, list(2, uintOf(1))), row(row(num(6)), row()), "\x08\x00\x00\x00\x09\x00\x00\x00\x06"},
		{"a list of 300 bytes, and one", list(2, list(300, uintOf(1))), row(many(300, num(9)), row(num(8))), "\x08\x00\x00\x00\x34\x01\x00\x00" + strings.Repeat("\x09", 300) + "\x08"},
		{"a container", container(uintOf(1), uintOf(2), boolean()), row(num(1), num(2), num(1)), "\x01\x02\x00\x01"},
		{"a container of a list", container(list(2, uintOf(1))), row(row(num(7))), "\x04\x00\x00\x00\x07"},
		{
			"a container of both", container(uintOf(1), list(2, uintOf(1)), boolean(), bitlist(3)),
			row(num(7), row(num(5), num(6)), num(1), marks("101")), "\x07\x0a\x00\x00\x00\x01\x0c\x00\x00\x00\x05\x06\x0d",
		},
		{
			"a container of both, the list first", container(list(2, uintOf(1)), uintOf(2), vector(2, boolean())),
			row(row(), num(9), row(num(1), num(0))), "\x08\x00\x00\x00\x09\x00\x01\x00",
		},
		{
			"offsets are counted from each row's own beginning", container(uintOf(1), container(uintOf(1), list(1, uintOf(1)))),
			row(num(1), row(num(2), row(num(3)))), "\x01\x05\x00\x00\x00\x02\x05\x00\x00\x00\x03",
		},
		{"a union's first", union(uintOf(1), list(2, uintOf(2))), pick(0, num(9)), "\x00\x09"},
		{"a union's last, empty", union(uintOf(1), list(2, uintOf(2))), pick(1, row()), "\x01"},
		{"a union's last", union(uintOf(1), list(2, uintOf(2))), pick(1, row(num(1), num(2))), "\x01\x01\x00\x02\x00"},
		{"a union's eighth", union(append(times(7, uintOf(1)), uintOf(2))...), pick(7, num(258)), "\x07\x02\x01"},
		{"a union of a union", union(boolean(), union(uintOf(1), uintOf(2))), pick(1, pick(0, num(5))), "\x01\x00\x05"},
		{"a union of a row with offsets", union(vector(1, bitlist(1))), pick(0, row(marks("1"))), "\x00\x04\x00\x00\x00\x03"},
		{
			"a list of unions", list(3, union(uintOf(1), uintOf(2))), row(pick(1, num(258)), pick(0, num(3))),
			"\x08\x00\x00\x00\x0b\x00\x00\x00\x01\x02\x01\x00\x03",
		},
		{"six types deep", vector(1, container(list(1, vector(1, container(boolean()))))), row(row(row(row(row(num(1)))))), "\x04\x00\x00\x00\x04\x00\x00\x00\x01"},
		{"six types deep, and lists", list(1, list(1, list(1, list(1, list(1, boolean()))))), row(row(row(row(row(num(1)))))), "\x04\x00\x00\x00\x04\x00\x00\x00\x04\x00\x00\x00\x04\x00\x00\x00\x01"},
	} {
		if s, e := holdPut(t, x.typ, x.v); s != x.s || e != api.OK {
			t.Errorf("%s: Put is %q, %v", x.name, s, e)
		}
		if v, e := holdGet(t, x.typ, x.s); !same(v, x.v) || e != api.OK {
			t.Errorf("%s: Get is %v, %v", x.name, brief(v), e)
		}
	}
}

func TestGetTellsFaults(t *testing.T) {
	lists := list(2, list(2, uintOf(1)))
	pair := container(uintOf(1), list(2, uintOf(1)), boolean(), bitlist(3))
	for _, x := range []struct {
		name string
		typ  api.Type
		s    string
		e    api.Errno
	}{
		{"no byte of 1", uintOf(1), "", api.ErrForm},
		{"2 bytes of 1", uintOf(1), "\x01\x00", api.ErrForm},
		{"1 byte of 2", uintOf(2), "\x01", api.ErrForm},
		{"3 bytes of 2", uintOf(2), "\x01\x00\x00", api.ErrForm},
		{"7 bytes of 8", uintOf(8), zeros(7), api.ErrForm},
		{"9 bytes of 8", uintOf(8), zeros(9), api.ErrForm},
		{"31 bytes of 32", uintOf(32), zeros(31), api.ErrForm},
		{"33 bytes of 32", uintOf(32), zeros(33), api.ErrForm},
		{"neither yes nor no", boolean(), "\x02", api.ErrForm},
		{"neither, 255", boolean(), "\xff", api.ErrForm},
		{"no byte of yes or no", boolean(), "", api.ErrForm},
		{"yes and a byte", boolean(), "\x01\x00", api.ErrForm},
		{"no byte of bits", bits(1), "", api.ErrForm},
		{"1 bit and a byte", bits(1), "\x01\x00", api.ErrForm},
		{"1 bit, and one behind it", bits(1), "\x02", api.ErrSpare},
		{"1 bit, and the last one of its byte", bits(1), "\x80", api.ErrSpare},
		{"7 bits, and one behind them", bits(7), "\x80", api.ErrSpare},
		{"8 bits and a byte", bits(8), "\x01\x00", api.ErrForm},
		{"9 bits in a byte", bits(9), "\x01", api.ErrForm},
		{"9 bits, and one behind them", bits(9), "\x00\x02", api.ErrSpare},
		{"511 bits, and one behind them", bits(511), strings.Repeat("\xff", 64), api.ErrSpare},
		{"a bit list without bytes", bitlist(3), "", api.ErrForm},
		{"a bit list whose byte is 0", bitlist(3), "\x00", api.ErrForm},
		{"a bit list whose last byte is 0", bitlist(9), "\x0d\x00", api.ErrForm},
		{"a bit list whose last byte is 0, of many", bitlist(3), strings.Repeat("\xff", 99) + "\x00", api.ErrForm},
		{"4 bits of 3", bitlist(3), "\x10", api.ErrLong},
		{"7 bits of 3", bitlist(3), "\x80", api.ErrLong},
		{"8 bits of 3", bitlist(3), "\x00\x01", api.ErrLong},
		{"8 bits of 7", bitlist(7), "\x00\x01", api.ErrLong},
		{"9 bits of 8", bitlist(8), "\x00\x02", api.ErrLong},
		{"513 bits of 512", bitlist(512), zeros(64) + "\x02", api.ErrLong},
		{"a vector, a byte less", vector(3, uintOf(2)), zeros(5), api.ErrForm},
		{"a vector, a byte more", vector(3, uintOf(2)), zeros(7), api.ErrForm},
		{"a vector, an item less", vector(3, uintOf(2)), zeros(4), api.ErrForm},
		{"a vector, an item more", vector(3, uintOf(2)), zeros(8), api.ErrForm},
		{"a vector without bytes", vector(3, uintOf(2)), "", api.ErrForm},
		{"a vector far too long", vector(512, vector(512, vector(512, vector(512, vector(512, uintOf(32)))))), zeros(65536), api.ErrForm},
		{"a vector with neither yes nor no", vector(2, boolean()), "\x01\x02", api.ErrForm},
		{"a vector with a bit behind", vector(2, bits(3)), "\x01\x08", api.ErrSpare},
		{"a list, half an item", list(3, uintOf(2)), zeros(1), api.ErrForm},
		{"a list, and a half more", list(3, uintOf(2)), zeros(5), api.ErrForm},
		{"a list, one more", list(3, uintOf(2)), zeros(8), api.ErrLong},
		{"a list of 513", list(512, uintOf(8)), zeros(8 * 513), api.ErrLong},
		{"a list of containers, and a half", list(3, container(uintOf(1), uintOf(2))), zeros(4), api.ErrForm},
		{"a list with neither yes nor no", list(3, boolean()), "\x01\x02", api.ErrForm},
		{"a list with a bit behind", list(3, bits(4)), "\x01\x10", api.ErrSpare},
		{"a list far too long", list(1, vector(512, vector(512, uintOf(32)))), zeros(65536), api.ErrForm},
		{"3 bytes of an offset", lists, "\x04\x00\x00", api.ErrForm},
		{"1 byte of an offset", lists, "\x04", api.ErrForm},
		{"an offset of 0", lists, "\x00\x00\x00\x00", api.ErrForm},
		{"an offset of 1", lists, "\x01\x00\x00\x00", api.ErrForm},
		{"an offset of 5", lists, "\x05\x00\x00\x00\x05", api.ErrForm},
		{"an offset of 6", lists, "\x06\x00\x00\x00\x05\x05", api.ErrForm},
		{"an offset of more than N items", lists, "\x0c\x00\x00\x00\x0c\x00\x00\x00\x0c\x00\x00\x00", api.ErrLong},
		{"an offset of 2^31", lists, "\x00\x00\x00\x80", api.ErrLong},
		{"an offset of 2^32-4", lists, "\xfc\xff\xff\xff", api.ErrLong},
		{"an offset of 2^32-1", lists, "\xff\xff\xff\xff", api.ErrForm},
		{"an offset of 256", lists, "\x00\x01\x00\x00", api.ErrLong},
		{"an offset of two, of which one is there", lists, "\x08\x00\x00\x00", api.ErrForm},
		{"an offset of two, of which the last is not all there", lists, "\x08\x00\x00\x00\x08\x00\x00", api.ErrForm},
		{"an offset below the one ahead", lists, "\x08\x00\x00\x00\x07\x00\x00\x00", api.ErrForm},
		{"an offset of 0 behind another one", lists, "\x08\x00\x00\x00\x00\x00\x00\x00", api.ErrForm},
		{"an offset above the length", lists, "\x08\x00\x00\x00\x09\x00\x00\x00", api.ErrForm},
		{"an offset far above the length", lists, "\x08\x00\x00\x00\xff\xff\xff\xff", api.ErrForm},
		{"an offset above the length, amid", vector(3, bitlist(1)), "\x0c\x00\x00\x00\x0f\x00\x00\x00\x0e\x00\x00\x00\x01\x01", api.ErrForm},
		{"an offset below the one ahead, last", vector(3, bitlist(1)), "\x0c\x00\x00\x00\x0e\x00\x00\x00\x0d\x00\x00\x00\x01\x01\x01", api.ErrForm},
		{"a list in it, too long", lists, "\x04\x00\x00\x00\x01\x02\x03", api.ErrLong},
		{"a last list in it, too long", lists, "\x08\x00\x00\x00\x09\x00\x00\x00\x01\x01\x02\x03", api.ErrLong},
		{"a vector without its beginning", vector(2, bitlist(1)), "", api.ErrForm},
		{"a vector with half its beginning", vector(2, bitlist(1)), "\x08\x00\x00\x00", api.ErrForm},
		{"a vector with almost all of its beginning", vector(2, bitlist(1)), "\x08\x00\x00\x00\x08\x00\x00", api.ErrForm},
		{"a vector whose first offset is less", vector(2, bitlist(1)), "\x04\x00\x00\x00\x08\x00\x00\x00\x01", api.ErrForm},
		{"a vector whose first offset is more", vector(2, bitlist(1)), "\x09\x00\x00\x00\x0a\x00\x00\x00\x01\x01\x01", api.ErrForm},
		{"a vector whose first offset is that of a longer one", vector(2, bitlist(1)), "\x0c\x00\x00\x00\x0d\x00\x00\x00\x0e\x00\x00\x00\x01\x01\x01", api.ErrForm},
		{"a vector of 1, whose offset is above the length", vector(1, bitlist(1)), "\x05\x00\x00\x00", api.ErrForm},
		{"a vector's bit list without bytes", vector(2, bitlist(1)), "\x08\x00\x00\x00\x08\x00\x00\x00\x01", api.ErrForm},
		{"a vector's last bit list without bytes", vector(2, bitlist(1)), "\x08\x00\x00\x00\x09\x00\x00\x00\x01", api.ErrForm},
		{"a container, a byte less", container(uintOf(1), uintOf(2)), zeros(2), api.ErrForm},
		{"a container, a byte more", container(uintOf(1), uintOf(2)), zeros(4), api.ErrForm},
		{"a container without its beginning", pair, "", api.ErrForm},
		{"a container with almost all of its beginning", pair, "\x07\x0a\x00\x00\x00\x01\x0a\x00\x00", api.ErrForm},
		{"a container's first offset, one less", pair, "\x07\x09\x00\x00\x00\x01\x0a\x00\x00\x00\x0d", api.ErrForm},
		{"a container's first offset, one more", pair, "\x07\x0b\x00\x00\x00\x01\x0b\x00\x00\x00\x05\x0d", api.ErrForm},
		{"a container's first offset, of its offsets alone", pair, "\x07\x08\x00\x00\x00\x01\x0b\x00\x00\x00\x05\x0d", api.ErrForm},
		{"a container's last offset, below the first", pair, "\x07\x0a\x00\x00\x00\x01\x09\x00\x00\x00\x0d", api.ErrForm},
		{"a container's last offset, above the length", pair, "\x07\x0a\x00\x00\x00\x01\x0c\x00\x00\x00\x0d", api.ErrForm},
		{"a container with neither yes nor no", pair, "\x07\x0a\x00\x00\x00\x02\x0a\x00\x00\x00\x0d", api.ErrForm},
		{"a container whose list is too long", pair, "\x07\x0a\x00\x00\x00\x01\x0d\x00\x00\x00\x01\x02\x03\x0d", api.ErrLong},
		{"a container whose bit list is without bytes", pair, "\x07\x0a\x00\x00\x00\x01\x0a\x00\x00\x00", api.ErrForm},
		{"a container whose bit list is too long", pair, "\x07\x0a\x00\x00\x00\x01\x0a\x00\x00\x00\x10", api.ErrLong},
		{"a union without bytes", union(uintOf(1), uintOf(2)), "", api.ErrForm},
		{"a union's place behind the last", union(uintOf(1), uintOf(2)), "\x02\x00", api.ErrKind},
		{"a union's place, 255", union(uintOf(1), uintOf(2)), "\xff\x00", api.ErrKind},
		{"a union's place behind the eighth", union(times(8, uintOf(1))...), "\x08\x00", api.ErrKind},
		{"a union's place behind the last alone", union(uintOf(1)), "\x01", api.ErrKind},
		{"a union's item, a byte less", union(uintOf(1), uintOf(2)), "\x01\x00", api.ErrForm},
		{"a union's item, a byte more", union(uintOf(1), uintOf(2)), "\x00\x00\x00", api.ErrForm},
		{"a union's item of no bytes", union(uintOf(1), uintOf(2)), "\x00", api.ErrForm},
		{"a union's item, a bit behind", union(bits(3)), "\x00\x08", api.ErrSpare},
		{"a union's list too long", union(list(1, boolean())), "\x00\x01\x01", api.ErrLong},
		{"a union's union's place", union(union(boolean())), "\x00\x01\x00", api.ErrKind},
		{"a vector's union's place", vector(1, union(boolean())), "\x04\x00\x00\x00\x01\x01", api.ErrKind},
		{"a vector's union without bytes", vector(1, union(boolean())), "\x04\x00\x00\x00", api.ErrForm},
		{"no kind", api.Type{}, "", api.ErrKind},
		{"kind 9", api.Type{Kind: 9}, "\x01", api.ErrKind},
		{"no kind in a list without bytes", list(1, api.Type{}), "", api.ErrKind},
		{"no kind in a union's other type", union(boolean(), api.Type{}), "\x00\x01", api.ErrKind},
		{"3 bytes", uintOf(3), "\x01\x02\x03", api.ErrForm},
		{"a vector of none", vector(0, boolean()), "", api.ErrForm},
		{"an empty container", container(), "", api.ErrForm},
		{"in 6 types", within(6, boolean()), "\x01", api.ErrDeep},
	} {
		if _, e := holdGet(t, x.typ, x.s); e != x.e {
			t.Errorf("%s: %v, want %v", x.name, e, x.e)
		}
	}
}

// The first error that the sentences name ends it, and of items the first one that is wrong.
func TestGetInItsOrder(t *testing.T) {
	long := zeros(65537)
	lists := list(2, list(2, uintOf(1)))
	mixed := container(bits(3), bitlist(3), boolean(), union(boolean()))
	for _, x := range []struct {
		name string
		typ  api.Type
		s    string
		e    api.Errno
	}{
		{"no kind ahead of too many bytes", api.Type{}, long, api.ErrKind},
		{"no form ahead of too many bytes", uintOf(3), long, api.ErrForm},
		{"too deep ahead of too many bytes", within(6, boolean()), long, api.ErrDeep},
		{"too many bytes ahead of the size", uintOf(1), long, api.ErrLong},
		{"too many bytes ahead of a last byte of 0", bitlist(1), long, api.ErrLong},
		{"too many bytes ahead of a first offset of 0", lists, long, api.ErrLong},
		{"too many bytes ahead of the place", union(boolean()), "\x09" + long, api.ErrLong},
		{"the size ahead of neither yes nor no", boolean(), "\x02\x00", api.ErrForm},
		{"the size ahead of a bit behind", bits(3), "\x08\x00", api.ErrForm},
		{"a vector's size ahead of a bit behind in it", vector(2, bits(3)), "\x08\x08\x08", api.ErrForm},
		{"a container's size ahead of a bit behind in it", container(bits(3), boolean()), "\x08", api.ErrForm},
		{"a container's size ahead of a bit behind in one in it", container(container(bits(3)), boolean()), "\x08\x00\x00", api.ErrForm},
		{"a bit behind on the left of neither yes nor no", container(bits(3), boolean()), "\x08\x02", api.ErrSpare},
		{"neither yes nor no on the left of a bit behind", container(boolean(), bits(3)), "\x02\x08", api.ErrForm},
		{"neither yes nor no in the left one ahead of a bit behind", container(vector(2, boolean()), bits(3)), "\x01\x02\x08", api.ErrForm},
		{"a bit behind in the left one", container(vector(2, bits(3)), boolean()), "\x01\x08\x02", api.ErrSpare},
		{"a last byte of 0 ahead of too many bits", bitlist(3), "\xff\xff\x00", api.ErrForm},
		{"no multiple ahead of too many", list(3, uintOf(2)), zeros(9), api.ErrForm},
		{"too many ahead of neither yes nor no", list(2, boolean()), "\x02\x02\x02", api.ErrLong},
		{"too many ahead of a bit behind", list(2, bits(3)), "\xff\xff\xff", api.ErrLong},
		{"no multiple of 4 ahead of too many", lists, "\x0d\x00\x00\x00", api.ErrForm},
		{"too many ahead of a beginning that is not there", lists, "\x0c\x00\x00\x00", api.ErrLong},
		{"too many ahead of an offset above the length", lists, "\x0c\x00\x00\x00\xff\xff\xff\xff\xff\xff\xff\xff", api.ErrLong},
		{"the beginning ahead of a bit behind in it", container(bits(3), bitlist(3)), "\x08\x05\x00", api.ErrForm},
		{"the first offset ahead of a bit behind in the beginning", container(bits(3), bitlist(3)), "\x08\x04\x00\x00\x00\x0d", api.ErrForm},
		{"the last offset ahead of a bit behind in the beginning", mixed, "\x08\x0a\x00\x00\x00\x01\xff\x00\x00\x00\x0d\x00\x01", api.ErrForm},
		{"the offsets ahead of what is in the first item", vector(2, list(1, boolean())), "\x08\x00\x00\x00\xff\x00\x00\x00\x01\x01\x01", api.ErrForm},
		{"all is well", mixed, "\x04\x0a\x00\x00\x00\x01\x0b\x00\x00\x00\x0d\x00\x01", api.OK},
		{"a bit behind, ahead of all", mixed, "\x08\x0a\x00\x00\x00\x02\x0b\x00\x00\x00\x10\x01\x01", api.ErrSpare},
		{"too many bits, apart, ahead of neither yes nor no behind", mixed, "\x04\x0a\x00\x00\x00\x02\x0b\x00\x00\x00\x10\x01\x01", api.ErrLong},
		{"neither yes nor no, ahead of a place apart", mixed, "\x04\x0a\x00\x00\x00\x02\x0b\x00\x00\x00\x0d\x01\x01", api.ErrForm},
		{"the place at last", mixed, "\x04\x0a\x00\x00\x00\x01\x0b\x00\x00\x00\x0d\x01\x01", api.ErrKind},
		{"neither yes nor no at last", mixed, "\x04\x0a\x00\x00\x00\x01\x0b\x00\x00\x00\x0d\x00\x02", api.ErrForm},
		{"too many in the left one ahead of no multiple in the right one", vector(2, list(1, uintOf(2))), "\x08\x00\x00\x00\x0c\x00\x00\x00\x00\x00\x00\x00\x00", api.ErrLong},
		{"no multiple in the left one ahead of too many in the right one", vector(2, list(1, uintOf(2))), "\x08\x00\x00\x00\x09\x00\x00\x00\x00\x00\x00\x00\x00", api.ErrForm},
		{"the place ahead of the item", union(boolean()), "\x01\x02\x02", api.ErrKind},
	} {
		if _, e := holdGet(t, x.typ, x.s); e != x.e {
			t.Errorf("%s: %v, want %v", x.name, e, x.e)
		}
	}
}

// What Fits tells is handed on, of the type first.
func TestPutTellsWhatFitsTells(t *testing.T) {
	lists := list(2, list(2, uintOf(1)))
	for _, x := range []struct {
		name string
		typ  api.Type
		v    api.Val
		e    api.Errno
	}{
		{"nothing of nothing", api.Type{}, api.Val{}, api.ErrKind},
		{"kind 9", api.Type{Kind: 9}, num(1), api.ErrKind},
		{"3 bytes", uintOf(3), num(1), api.ErrForm},
		{"a vector of none", vector(0, boolean()), row(), api.ErrForm},
		{"513 bits", bits(513), ones(513), api.ErrForm},
		{"in 6 types", within(6, boolean()), num(1), api.ErrDeep},
		{"no kind in a list without items", list(1, api.Type{}), row(), api.ErrKind},
		{"no kind ahead of too many", list(1, api.Type{}), many(2, num(1)), api.ErrKind},
		{"256 of 1 byte", uintOf(1), num(256), api.ErrForm},
		{"2^64 of 8 bytes", uintOf(8), wide(0, 1), api.ErrForm},
		{"neither yes nor no", boolean(), num(2), api.ErrForm},
		{"a vector, one less", vector(2, boolean()), many(1, num(1)), api.ErrForm},
		{"a vector, one more", vector(2, boolean()), many(3, num(1)), api.ErrForm},
		{"bits, one less", bits(3), ones(2), api.ErrForm},
		{"bits, one more", bits(3), ones(4), api.ErrForm},
		{"a list, one more", list(2, boolean()), many(3, num(1)), api.ErrLong},
		{"a list of lists, one more in one", lists, row(row(), many(3, num(1))), api.ErrLong},
		{"a list of 513", list(512, boolean()), many(513, num(1)), api.ErrLong},
		{"a bit list, one more", bitlist(3), ones(4), api.ErrLong},
		{"a bit list of 513", bitlist(512), ones(513), api.ErrLong},
		{"a container, one less", container(boolean(), boolean()), many(1, num(1)), api.ErrForm},
		{"a union's place behind the last", union(boolean()), pick(1, num(1)), api.ErrForm},
		{"a union's place below 0", union(boolean()), pick(-1, num(1)), api.ErrForm},
		{"a union without an item", union(boolean()), pick(0), api.ErrForm},
		{"a union with two", union(boolean()), pick(0, num(1), num(1)), api.ErrForm},
		{"a number with a bit", uintOf(1), ones(1), api.ErrForm},
		{"a list with a pick", list(2, boolean()), pick(1), api.ErrForm},
		{"too many on the left of no form", container(list(1, boolean()), boolean()), row(many(2, num(1)), num(2)), api.ErrLong},
		{"no form on the left of too many", container(boolean(), list(1, boolean())), row(num(2), many(2, num(1))), api.ErrForm},
		{"no form in what has too many bytes", vector(512, vector(512, uintOf(1))), row(append(many(511, many(512, num(0))).Items, many(512, num(256)))...), api.ErrForm},
	} {
		if _, e := holdPut(t, x.typ, x.v); e != x.e {
			t.Errorf("%s: %v, want %v", x.name, e, x.e)
		}
		if e := shape.Fits(x.typ, x.v); e != x.e {
			t.Errorf("%s: Fits tells %v, want %v", x.name, e, x.e)
		}
	}
}

// Of 65536 bytes all is well, of one more it is not.
func TestTheMostBytes(t *testing.T) {
	wide := vector(128, uintOf(1))
	deep := vector(508, vector(129, uintOf(1))) // 65532 bytes
	for _, x := range []struct {
		name  string
		typ   api.Type
		v     api.Val
		bytes int
	}{
		{"a vector", vector(512, wide), many(512, many(128, num(7))), 65536},
		{"a vector of more", vector(512, vector(129, uintOf(1))), many(512, many(129, num(7))), 66048},
		{"a list", list(512, wide), many(512, many(128, num(7))), 65536},
		{"a list and a list", container(vector(508, wide), list(508, uintOf(1))), row(many(508, many(128, num(7))), many(508, num(9))), 65536},
		{"a list and a longer one", container(vector(508, wide), list(509, uintOf(1))), row(many(508, many(128, num(7))), many(509, num(9))), 65537},
		{"a list of lists", list(512, list(124, uintOf(1))), many(512, many(124, num(7))), 65536},
		{"a list of lists, and one more", list(512, list(125, uintOf(1))), row(append(many(511, many(124, num(7))).Items, many(125, num(7)))...), 65537},
		{"a container, and a byte", container(deep, uintOf(4)), row(many(508, many(129, num(7))), num(1<<32-1)), 65536},
		{"a container, and a byte more", container(deep, uintOf(4), boolean()), row(many(508, many(129, num(7))), num(1), num(1)), 65537},
		{"an offset that is the length", container(deep, list(1, boolean())), row(many(508, many(129, num(7))), row()), 65536},
		{"an offset that is the length, and a byte", container(deep, list(1, boolean())), row(many(508, many(129, num(7))), many(1, num(1))), 65537},
		{"an offset ahead of what is long", container(list(1, boolean()), deep), row(row(), many(508, many(129, num(7)))), 65536},
		{"an offset ahead of what is too long", container(list(1, boolean()), deep), row(many(1, num(1)), many(508, many(129, num(7)))), 65537},
		{"a union", union(boolean(), list(511, wide)), pick(1, many(511, many(128, num(7)))), 65409},
		{"a union of the most, and its byte", union(list(512, wide)), pick(0, many(512, many(128, num(7)))), 65537},
		{"a union in the rest", container(deep, union(uintOf(1))), row(many(508, many(129, num(7))), pick(0, num(1))), 65538},
		{"far too many", vector(512, vector(512, uintOf(32))), many(512, many(512, num(7))), 1 << 23},
		{"far too many behind an offset", container(bitlist(9), vector(512, vector(512, uintOf(32)))), row(ones(9), many(512, many(512, num(7)))), 1<<23 + 6},
		{"far too many apart", list(512, list(512, uintOf(32))), many(512, many(512, num(7))), 1<<23 + 2048},
	} {
		want := api.OK
		if x.bytes > 65536 {
			want = api.ErrLong
		}
		all := bytesOf(x.typ, x.v)
		if len(all) != x.bytes {
			t.Errorf("%s: %d bytes, want %d", x.name, len(all), x.bytes)
		}
		s, e := ssz.Put(x.typ, x.v)
		if e != want || want == api.OK && s != all || want != api.OK && s != "" {
			t.Errorf("%s: Put is %d bytes, %v", x.name, len(s), e)
		}
		if v, e := holdGet(t, x.typ, all); e != want || want == api.OK && !same(v, x.v) {
			t.Errorf("%s: Get is %v", x.name, e)
		}
	}
}

func TestPutOfAllSorts(t *testing.T) {
	seen := map[api.Errno]int{}
	typesAndVals(1, func(_ *rand.Rand, typ api.Type, v api.Val) {
		s, e := holdPut(t, typ, v)
		seen[e]++
		if e != api.OK {
			return
		}
		if got, e := ssz.Get(typ, s); e != api.OK || !same(got, v) {
			t.Errorf("%v, of %v, is put, and got as %v, %v", v, typ, got, e)
		}
	})
	for _, e := range []api.Errno{api.OK, api.ErrForm, api.ErrLong, api.ErrKind} {
		if seen[e] < 50 {
			t.Errorf("only %d values are told %v", seen[e], e)
		}
	}
}

func TestGetOfAllSorts(t *testing.T) {
	seen := map[api.Errno]int{}
	typesAndVals(2, func(r *rand.Rand, typ api.Type, v api.Val) {
		s, e := putOf(typ, v)
		if e != api.OK {
			s = strings.Repeat("\x04\x00\x00\x00", r.Intn(3))
		}
		for range 6 {
			got, e := holdGet(t, typ, s)
			seen[e]++
			if e == api.OK {
				if again, e := ssz.Put(typ, got); e != api.OK || again != s {
					t.Errorf("%q, of %v, is got, and put as %q, %v", s, typ, again, e)
				}
			}
			s = spoilText(r, s)
		}
	})
	for _, e := range []api.Errno{api.OK, api.ErrForm, api.ErrLong, api.ErrSpare, api.ErrKind} {
		if seen[e] < 300 {
			t.Errorf("only %d texts are told %v", seen[e], e)
		}
	}
}

// allVals are all values of a type, of which there are few.
func allVals(t api.Type) []api.Val {
	switch t.Kind {
	case api.TypeUint, api.TypeBool:
		most := 1
		if t.Kind == api.TypeUint {
			most = 1<<(8*t.N) - 1
		}
		var l []api.Val
		for n := range most + 1 {
			l = append(l, num(uint64(n)))
		}
		return l
	case api.TypeBits:
		return allBits(t.N)
	case api.TypeBitlist:
		var l []api.Val
		for n := range t.N + 1 {
			l = append(l, allBits(n)...)
		}
		return l
	case api.TypeVector:
		return allRows(times(t.N, t.In[0]))
	case api.TypeList:
		var l []api.Val
		for n := range t.N + 1 {
			l = append(l, allRows(times(n, t.In[0]))...)
		}
		return l
	case api.TypeContainer:
		return allRows(t.In)
	}
	var l []api.Val
	for i, in := range t.In {
		for _, v := range allVals(in) {
			l = append(l, pick(i, v))
		}
	}
	return l
}

func allBits(n int) []api.Val {
	var l []api.Val
	for code := range 1 << n {
		v := api.Val{}
		for i := range n {
			v.Bits = append(v.Bits, code>>i&1 == 1)
		}
		l = append(l, v)
	}
	return l
}

func allRows(in []api.Type) []api.Val {
	if len(in) == 0 {
		return []api.Val{row()}
	}
	var l []api.Val
	last := allVals(in[len(in)-1])
	for _, v := range allRows(in[:len(in)-1]) {
		for _, one := range last {
			l = append(l, row(append(slices.Clone(v.Items), one)...))
		}
	}
	return l
}

// near hands on a text, all that differ from it by one byte, and those that lack one, or have one more.
func near(s string, each func(string)) {
	each(s)
	for at := range len(s) + 1 {
		for b := range 256 {
			one := string([]byte{byte(b)})
			each(s[:at] + one + s[at:])
			if at < len(s) {
				each(s[:at] + one + s[at+1:])
			}
		}
		if at < len(s) {
			each(s[:at] + s[at+1:])
			each(s[at:])
			each(s[:at])
		}
	}
}

// Of types that have few values: each value has bytes of its own, and no other bytes are got.
func TestNothingElseIsGot(t *testing.T) {
	for _, x := range []struct {
		typ  api.Type
		vals int
	}{
		{uintOf(1), 256},
		{boolean(), 2},
		{bits(1), 2},
		{bits(3), 8},
		{bits(8), 256},
		{bits(9), 512},
		{bitlist(1), 3},
		{bitlist(3), 15},
		{bitlist(8), 511},
		{vector(2, boolean()), 4},
		{vector(2, bits(2)), 16},
		{vector(2, bitlist(1)), 9},
		{vector(1, vector(2, bitlist(1))), 9},
		{list(2, boolean()), 7},
		{list(2, container(boolean(), bits(1))), 21},
		{list(2, bitlist(1)), 13},
		{list(2, list(1, boolean())), 13},
		{list(2, list(2, boolean())), 57},
		{list(1, list(1, list(1, boolean()))), 5},
		{container(boolean(), bits(2)), 8},
		{container(bits(2), bitlist(1)), 12},
		{container(bitlist(1), boolean(), list(1, boolean())), 18},
		{union(boolean()), 2},
		{union(boolean(), bits(2), bitlist(1), list(1, boolean())), 12},
		{union(union(boolean()), union(boolean(), boolean())), 6},
		{container(union(boolean(), list(1, boolean()))), 5},
	} {
		texts := map[string]int{}
		for _, v := range allVals(x.typ) {
			s, e := ssz.Put(x.typ, v)
			if e != api.OK {
				t.Errorf("Put(%v, %v) is %v", x.typ, v, e)
			}
			if got, e := ssz.Get(x.typ, s); e != api.OK || !same(got, v) {
				t.Errorf("%v, of %v, is got as %v, %v", v, x.typ, got, e)
			}
			texts[s]++
		}
		if len(texts) != x.vals {
			t.Errorf("%v has %d texts, want %d", x.typ, len(texts), x.vals)
		}
		hold := func(s string) {
			if v, e := ssz.Get(x.typ, s); (e == api.OK) != (texts[s] > 0) || e != api.OK && !same(v, api.Val{}) {
				t.Errorf("Get(%v, %q) = %v, %v", x.typ, s, v, e)
			}
		}
		all := slices.Sorted(maps.Keys(texts))
		for i := 0; i < len(all); i += 1 + len(all)/25 {
			near(all[i], hold)
		}
		for n := range 256 {
			hold(string([]byte{byte(n)}))
			hold(string([]byte{byte(n), 1}))
			hold(string([]byte{byte(n % 16), byte(n / 16)}))
		}
	}
}

// Beside an error the text is empty, and the value zero, however much was put or read ahead of it.
func TestBesideAnErrorAllIsZero(t *testing.T) {
	typ := container(uintOf(1), list(2, bits(3)), boolean())
	s := "\x07\x06\x00\x00\x00\x01\x01\x02"
	if v, e := ssz.Get(typ, s); e != api.OK || !same(v, row(num(7), row(marks("100"), marks("010")), num(1))) {
		t.Fatal(v, e)
	}
	for _, bad := range []string{s[:5] + "\x02" + s[6:], s[:7] + "\x08", s + "\x00", s[:4], "\x07\x07" + s[2:]} {
		v, e := ssz.Get(typ, bad)
		if e == api.OK || v.Num != (api.Word{}) || len(v.Bits) > 0 || len(v.Items) > 0 || v.Pick != 0 {
			t.Errorf("Get(%q) = %v, %v", bad, v, e)
		}
	}
	if v, e := ssz.Get(union(boolean(), boolean()), "\x01\x02"); e != api.ErrForm || !same(v, api.Val{}) {
		t.Error(v, e)
	}
	wide := vector(512, vector(129, uintOf(1)))
	for _, x := range []struct {
		typ api.Type
		v   api.Val
	}{{wide, many(512, many(129, num(7)))}, {container(boolean(), wide), row(num(1), many(512, many(129, num(7))))}, {boolean(), num(2)}} {
		if s, e := ssz.Put(x.typ, x.v); e == api.OK || s != "" {
			t.Errorf("Put is %d bytes, %v", len(s), e)
		}
	}
}

// No call changes an argument, and each tells the same again.
func TestArgumentsStayAndAnswersToo(t *testing.T) {
	typesAndVals(3, func(_ *rand.Rand, typ api.Type, v api.Val) {
		oldType, oldVal := copyOfType(typ), copyOfVal(v)
		s, e := ssz.Put(typ, v)
		got, found := ssz.Get(typ, s)
		if !same(v, oldVal) || !sameType(typ, oldType) {
			t.Fatalf("%v, %v are changed to %v, %v", oldType, oldVal, typ, v)
		}
		if again, and := ssz.Put(oldType, oldVal); again != s || and != e {
			t.Errorf("Put(%v, %v) is %q, %v the second time, and was %q, %v", typ, v, again, and, s, e)
		}
		if again, and := ssz.Get(oldType, s); !same(again, got) || and != found {
			t.Errorf("Get(%v, %q) is %v, %v the second time, and was %v, %v", typ, s, again, and, got, found)
		}
	})
}

// lists hands on all memory of a value's lists, what is behind their ends too.
func lists(v api.Val, bits func(*bool), items func(*api.Val)) {
	for i := range v.Bits[:cap(v.Bits)] {
		bits(&v.Bits[:cap(v.Bits)][i])
	}
	for i := range v.Items[:cap(v.Items)] {
		items(&v.Items[:cap(v.Items)][i])
	}
	for _, in := range v.Items {
		lists(in, bits, items)
	}
}

func TestListsOfAnAnswerShareNothing(t *testing.T) {
	held := 0
	typesAndVals(4, func(_ *rand.Rand, typ api.Type, v api.Val) {
		s, e := ssz.Put(typ, v)
		if e != api.OK {
			return
		}
		first, _ := ssz.Get(typ, s)
		second, _ := ssz.Get(typ, s)
		bits, items := map[*bool]int{}, map[*api.Val]int{}
		for _, got := range []api.Val{v, first, second} {
			lists(got, func(b *bool) { bits[b]++ }, func(in *api.Val) { items[in]++ })
		}
		for _, n := range bits {
			held++
			if n > 1 {
				t.Fatalf("two lists of bits share memory: Get(%v, %q)", typ, s)
			}
		}
		for _, n := range items {
			held++
			if n > 1 {
				t.Fatalf("two lists of items share memory: Get(%v, %q)", typ, s)
			}
		}
	})
	if held < 100000 {
		t.Errorf("only %d things are held", held)
	}
}

// Bytes that were put stay when the value changes, and those of it alone are read: what is behind a list's end is not.
func TestAnswersShareNothingWithArguments(t *testing.T) {
	typ := container(bits(3), list(3, uintOf(1)), bitlist(3))
	items, marked := []api.Val{num(1), num(2), num(256)}, []bool{true, false, true, true}
	v := row(api.Val{Bits: marked[:3]}, row(items[:2]...), api.Val{Bits: marked[1:3]})
	s, e := ssz.Put(typ, v)
	kept := strings.Clone(s)
	if e != api.OK || s != "\x05\x09\x00\x00\x00\x0b\x00\x00\x00\x01\x02\x06" {
		t.Fatalf("%q, %v", s, e)
	}
	if !marked[3] || !same(items[2], num(256)) {
		t.Error("what is behind a list's end is changed", marked, items)
	}
	clear(items)
	clear(marked)
	v.Items[0] = ones(9)
	if s != kept {
		t.Errorf("%q has become %q", kept, s)
	}
	got, _ := ssz.Get(typ, s)
	got.Items[0].Bits[0] = false
	got.Items[1].Items[0] = num(9)
	if again, e := ssz.Get(typ, s); e != api.OK || !same(again, row(marks("101"), row(num(1), num(2)), marks("01"))) {
		t.Error(again, e)
	}
}

// nil or empty is never asked.
func TestListsWithoutThingsAreNilOrEmpty(t *testing.T) {
	for _, in := range [][]api.Type{nil, {}} {
		for _, marked := range [][]bool{nil, {}} {
			for _, items := range [][]api.Val{nil, {}} {
				for _, x := range []struct {
					typ api.Type
					n   uint64
					s   string
				}{
					{api.Type{Kind: api.TypeUint, N: 2, In: in}, 258, "\x02\x01"},
					{api.Type{Kind: api.TypeBool, In: in}, 1, "\x01"},
					{api.Type{Kind: api.TypeBitlist, N: 3, In: in}, 0, "\x01"},
					{list(1, api.Type{Kind: api.TypeBool, In: in}), 0, ""},
					{list(1, api.Type{Kind: api.TypeBitlist, N: 3, In: in}), 0, ""},
				} {
					v := num(x.n)
					v.Bits, v.Items = marked, items
					for _, y := range []struct {
						typ api.Type
						v   api.Val
						s   string
					}{{x.typ, v, x.s}, {union(x.typ), pick(0, v), "\x00" + x.s}} {
						if s, e := ssz.Put(y.typ, y.v); s != y.s || e != api.OK {
							t.Errorf("Put(%v, %v) = %q, %v", y.typ, y.v, s, e)
						}
						if got, e := ssz.Get(y.typ, y.s); !same(got, y.v) || e != api.OK {
							t.Errorf("Get(%v, %q) = %v, %v", y.typ, y.s, got, e)
						}
					}
				}
			}
		}
		for _, kind := range []int{api.TypeVector, api.TypeList, api.TypeContainer, api.TypeUnion} {
			if v, e := ssz.Get(api.Type{Kind: kind, In: in}, ""); e != api.ErrForm || !same(v, api.Val{}) {
				t.Errorf("kind %d: %v, %v", kind, v, e)
			}
		}
	}
}

// Whatever it is given, a call ends: also with as many levels as the document speaks of, and with types and values that hold themselves.
func TestAllEndsAtAllArguments(t *testing.T) {
	const levels = 1 << 16
	itself := api.Type{Kind: api.TypeContainer, In: make([]api.Type, 16)}
	for i := range itself.In {
		itself.In[i] = itself
	}
	heldVal := api.Val{Items: make([]api.Val, 1)}
	heldVal.Items[0] = heldVal
	deepVal := num(1)
	for range levels {
		deepVal = row(deepVal)
	}
	for _, x := range []struct {
		name string
		typ  api.Type
		e    api.Errno
	}{
		{"as deep as may be", within(levels, boolean()), api.ErrDeep},
		{"one that holds itself", itself, api.ErrDeep},
		{"one of no kind, that holds one that holds itself", api.Type{In: itself.In}, api.ErrKind},
		{"one that is wrong beside one that holds itself", container(uintOf(3), itself), api.ErrForm},
		{"many in a container", container(times(1<<20, boolean())...), api.ErrForm},
		{"a kind below 0", api.Type{Kind: math.MinInt, N: math.MinInt}, api.ErrKind},
		{"a great kind", api.Type{Kind: math.MaxInt, N: math.MaxInt}, api.ErrKind},
		{"a list of too many", list(math.MaxInt, boolean()), api.ErrForm},
		{"bits of too many", bits(math.MaxInt), api.ErrForm},
		{"a vector of less than none", vector(math.MinInt, boolean()), api.ErrForm},
	} {
		for _, v := range []api.Val{{}, num(1), deepVal, heldVal, many(1<<20, num(1)), ones(1 << 20)} {
			if s, e := ssz.Put(x.typ, v); s != "" || e != x.e {
				t.Errorf("%s: Put is %q, %v, want %v", x.name, s, e, x.e)
			}
		}
		for _, s := range []string{"", "\x01", zeros(65536), zeros(1 << 20)} {
			if v, e := ssz.Get(x.typ, s); !same(v, api.Val{}) || e != x.e {
				t.Errorf("%s: Get is %v, %v, want %v", x.name, v, e, x.e)
			}
		}
	}
	five := list(1, list(1, list(1, list(1, list(1, uintOf(32))))))
	for _, v := range []api.Val{heldVal, deepVal} {
		if s, e := ssz.Put(five, v); s != "" || e != api.ErrForm {
			t.Error(s, e)
		}
	}
	for _, typ := range []api.Type{uintOf(32), boolean(), bits(512), bitlist(512), list(512, boolean()), five, union(five.In[0]), container(five.In[0], five.In[0])} {
		for _, s := range []string{zeros(1 << 20), strings.Repeat("\xff", 1<<20)} {
			if v, e := ssz.Get(typ, s); !same(v, api.Val{}) || e != api.ErrLong {
				t.Errorf("Get(%v, ..) = %v, %v", typ, v, e)
			}
		}
		for b := range 256 {
			holdGet(t, typ, strings.Repeat(string([]byte{byte(b)}), 65536))
		}
	}
}

// The widest types end soon, in what is put and in what is got.
func TestWideTypesEnd(t *testing.T) {
	fixed, apart := uintOf(1), list(1, boolean())
	small, v := num(7), row()
	for range 4 {
		fixed, apart = container(times(16, fixed)...), container(times(16, apart)...)
		small = many(16, small)
	}
	s, e := holdPut(t, fixed, small)
	if e != api.OK || s != strings.Repeat("\x07", 65536) {
		t.Errorf("%d bytes, %v", len(s), e)
	}
	if got, e := holdGet(t, fixed, s); e != api.OK || !same(got, small) {
		t.Error(e)
	}
	for range 4 {
		v = many(16, v)
	}
	if _, e := holdPut(t, apart, v); e != api.ErrLong {
		t.Error(e)
	}
	if _, e := holdGet(t, apart, strings.Repeat("\x40\x00\x00\x00", 16384)); e != api.ErrForm {
		t.Error(e)
	}
	if s, e := holdPut(t, apart.In[0], v.Items[0]); e != api.OK {
		t.Error(len(s), e)
	} else if got, e := holdGet(t, apart.In[0], s); e != api.OK || !same(got, v.Items[0]) {
		t.Error(e)
	}
}
