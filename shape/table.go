package shape

import (
	"rescript/api"
	"rescript/word"
)

// kind is a line of the chapter's table.
type kind struct {
	// form tells whether a type is as its line says, those in it aside.
	form func(t api.Type) bool
	// size tells how many bytes a value has beside those of its items, and how many items
	// it has of each type in it. It is nil where not all values have as many bytes.
	size func(t api.Type) (own, each int)
	// fault tells what is wrong with the parts of a value that the line names, its items'
	// own parts aside; rest is the value without the parts that the line names.
	fault func(t api.Type, v api.Val) api.Errno
	rest  func(v api.Val) api.Val
	// of is the type of the item at a place. It is nil where values have no items.
	of func(t api.Type, pick, place int) api.Type
}

type kinds map[int]kind

func table() kinds {
	return kinds{
		api.TypeUint: {
			form:  has(isWidth, 0, 0),
			size:  func(t api.Type) (int, int) { return t.N, 0 },
			fault: func(t api.Type, v api.Val) api.Errno { return formUnless(len(word.Bytes(v.Num)) <= t.N) },
			rest:  withoutNum,
		},
		api.TypeBool: {
			form:  has(isNought, 0, 0),
			size:  func(api.Type) (int, int) { return 1, 0 },
			fault: func(_ api.Type, v api.Val) api.Errno { return formUnless(word.Less(v.Num, word.Of(2))) },
			rest:  withoutNum,
		},
		api.TypeVector: {
			form:  has(isCount, 1, 1),
			size:  func(t api.Type) (int, int) { return 0, t.N },
			fault: func(t api.Type, v api.Val) api.Errno { return exactly(t.N, v.Items) },
			rest:  withoutItems,
			of:    theOnly,
		},
		api.TypeList: {
			form:  has(isCount, 1, 1),
			fault: func(t api.Type, v api.Val) api.Errno { return atMost(t.N, v.Items) },
			rest:  withoutItems,
			of:    theOnly,
		},
		api.TypeBits: {
			form:  has(isCount, 0, 0),
			size:  func(t api.Type) (int, int) { return (t.N + 7) / 8, 0 },
			fault: func(t api.Type, v api.Val) api.Errno { return exactly(t.N, v.Bits) },
			rest:  withoutBits,
		},
		api.TypeBitlist: {
			form:  has(isCount, 0, 0),
			fault: func(t api.Type, v api.Val) api.Errno { return atMost(t.N, v.Bits) },
			rest:  withoutBits,
		},
		api.TypeContainer: {
			form:  has(isNought, 1, 16),
			size:  func(api.Type) (int, int) { return 0, 1 },
			fault: func(t api.Type, v api.Val) api.Errno { return exactly(len(t.In), v.Items) },
			rest:  withoutItems,
			of:    func(t api.Type, _, place int) api.Type { return t.In[place] },
		},
		api.TypeUnion: {
			form:  has(isNought, 1, 8),
			fault: faultOfUnion,
			rest:  func(v api.Val) api.Val { v.Pick = 0; return withoutItems(v) },
			of:    func(t api.Type, pick, _ int) api.Type { return t.In[pick] },
		},
	}
}

// has tells of a type by its number, and by how many types stand in it.
func has(number func(n int) bool, least, most int) func(t api.Type) bool {
	return func(t api.Type) bool { return number(t.N) && least <= len(t.In) && len(t.In) <= most }
}

func isWidth(n int) bool { return n == 1 || n == 2 || n == 4 || n == 8 || n == 32 }

func isNought(n int) bool { return n == 0 }

func isCount(n int) bool { return 1 <= n && n <= 512 }

func theOnly(t api.Type, _, _ int) api.Type { return t.In[0] }

func faultOfUnion(t api.Type, v api.Val) api.Errno {
	if v.Pick < 0 || v.Pick >= len(t.In) {
		return api.ErrForm
	}
	return exactly(1, v.Items)
}

func withoutNum(v api.Val) api.Val {
	v.Num = api.Word{}
	return v
}

func withoutBits(v api.Val) api.Val {
	v.Bits = nil
	return v
}

func withoutItems(v api.Val) api.Val {
	v.Items = nil
	return v
}

func exactly[T any](n int, row []T) api.Errno { return formUnless(len(row) == n) }

func atMost[T any](n int, row []T) api.Errno {
	if len(row) > n {
		return api.ErrLong
	}
	return api.OK
}

func formUnless(ok bool) api.Errno {
	if !ok {
		return api.ErrForm
	}
	return api.OK
}
