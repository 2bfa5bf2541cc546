package tx

import (
	"rescript/api"
	"rescript/field"
)

// giveUp ends what is read, from however deep in it, unless nothing is wrong.
func giveUp(e api.Errno) {
	if e != api.OK {
		panic(e)
	}
}

// read is what get tells of something; it gives up where that is an error.
func read[F, T any](from F, get func(F) (T, api.Errno)) T {
	got, e := get(from)
	giveUp(e)
	return got
}

func getNumber(it api.Item) uint64 { return read(it, field.GetNumber) }

func getWord(it api.Item) api.Word { return read(it, field.GetWord) }

func getBool(it api.Item) bool { return read(it, field.GetBool) }

func getTo(it api.Item) string { return read(it, field.GetAddr) }

func getData(it api.Item) string {
	return read(it, func(it api.Item) (string, api.Errno) { return field.GetText(it, 0, api.MaxData) })
}

// getText reads bytes of one length. Whatever else an item is, it is told as of no form.
func getText(length int) func(it api.Item) string {
	return func(it api.Item) string {
		return read(it, func(it api.Item) (string, api.Errno) {
			s, e := field.GetText(it, length, length)
			if e != api.OK {
				return "", api.ErrForm
			}
			return s, api.OK
		})
	}
}

func getList(it api.Item, least, most int) []api.Item {
	return read(it, func(it api.Item) ([]api.Item, api.Errno) { return field.GetList(it, least, most) })
}

// getEach is what get tells of a list's items, one by one.
func getEach[T any](it api.Item, most int, get func(api.Item) T) []T {
	items := getList(it, 0, most)
	l := make([]T, len(items))
	for i, in := range items {
		l[i] = get(in)
	}
	return l
}

func getAccess(it api.Item) []api.Access { return getEach(it, mostPairs, getPair) }

func getPair(it api.Item) api.Access {
	l := getList(it, pairParts, pairParts)
	return api.Access{
		Addr: getText(addrBytes)(l[0]),
		Keys: getEach(l[1], mostKeys, getText(keyBytes)),
	}
}

func getAuths(it api.Item) []api.Auth { return getEach(it, mostAuths, getAuth) }

func getAuth(it api.Item) api.Auth {
	l := getList(it, authParts, authParts)
	// Calls are made from the left, in the order of the parts: the first one that is wrong is told.
	return api.Auth{
		Chain: getNumber(l[0]),
		Addr:  getText(addrBytes)(l[1]),
		Nonce: getNumber(l[2]),
		Y:     getNumber(l[3]),
		R:     getWord(l[4]),
		S:     getWord(l[5]),
	}
}
