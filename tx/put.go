package tx

import (
	"rescript/api"
	"rescript/field"
)

// putEach is the list of what put makes of things, one by one.
func putEach[T any](l []T, put func(T) api.Item) api.Item {
	items := make([]api.Item, len(l))
	for i, one := range l {
		items[i] = put(one)
	}
	return field.List(items...)
}

func putAccess(l []api.Access) api.Item { return putEach(l, putPair) }

func putPair(a api.Access) api.Item { return field.List(field.Text(a.Addr), field.Texts(a.Keys)) }

func putAuths(l []api.Auth) api.Item { return putEach(l, putAuth) }

func putAuth(a api.Auth) api.Item {
	return field.List(field.Number(a.Chain), field.Text(a.Addr), field.Number(a.Nonce),
		field.Number(a.Y), field.Word(a.R), field.Word(a.S))
}
