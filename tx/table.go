package tx

import (
	"iter"

	"rescript/api"
	"rescript/field"
)

// part is a field of a kind.
type part struct {
	// put is the field as an item, get reads it of one, and leave makes it nought, or empty.
	put   func(w *wire) api.Item
	get   func(w *wire, it api.Item)
	leave func(w *wire)
}

// partOf is the field that stands at a place.
func partOf[T any](at func(w *wire) *T, put func(T) api.Item, get func(api.Item) T) part {
	return part{
		put: func(w *wire) api.Item { return put(*at(w)) },
		get: func(w *wire, it api.Item) { *at(w) = get(it) },
		leave: func(w *wire) {
			var none T
			*at(w) = none
		},
	}
}

// kind is the fields that a kind names, in order.
type kind []part

// fields tells them, each with its place.
func (k kind) fields() iter.Seq2[int, part] {
	return func(yield func(int, part) bool) {
		for i, f := range k {
			if !yield(i, f) {
				return
			}
		}
	}
}

// hasMore tells whether something stands in a transaction that its kind does not name.
func (k kind) hasMore(t api.Tx) bool {
	rest := written(t)
	rest.Kind = 0
	for _, f := range k.fields() {
		f.leave(&rest)
	}
	return !Same(rest.Tx, api.Tx{})
}

func kinds() map[int]kind {
	var (
		chain  = partOf(func(w *wire) *uint64 { return &w.Chain }, field.Number, getNumber)
		nonce  = partOf(func(w *wire) *uint64 { return &w.Nonce }, field.Number, getNumber)
		tip    = partOf(func(w *wire) *api.Word { return &w.Tip }, field.Word, getWord)
		price  = partOf(func(w *wire) *api.Word { return &w.Price }, field.Word, getWord)
		gas    = partOf(func(w *wire) *uint64 { return &w.Gas }, field.Number, getNumber)
		to     = partOf(func(w *wire) *string { return &w.To }, field.Text, getTo)
		value  = partOf(func(w *wire) *api.Word { return &w.Value }, field.Word, getWord)
		data   = partOf(func(w *wire) *string { return &w.Data }, field.Text, getData)
		access = partOf(func(w *wire) *[]api.Access { return &w.Access }, putAccess, getAccess)
		auths  = partOf(func(w *wire) *[]api.Auth { return &w.Auths }, putAuths, getAuths)
		v      = partOf(func(w *wire) *uint64 { return &w.v }, field.Number, getNumber)
		y      = partOf(func(w *wire) *uint64 { return &w.Y }, field.Number, getNumber)
		r      = partOf(func(w *wire) *api.Word { return &w.R }, field.Word, getWord)
		s      = partOf(func(w *wire) *api.Word { return &w.S }, field.Word, getWord)
		source = partOf(func(w *wire) *string { return &w.Source }, field.Text, getText(sourceBytes))
		from   = partOf(func(w *wire) *string { return &w.From }, field.Text, getText(addrBytes))
		mint   = partOf(func(w *wire) *api.Word { return &w.Mint }, field.Word, getWord)
		system = partOf(func(w *wire) *bool { return &w.System }, field.Bool, getBool)
	)
	return map[int]kind{
		api.TxLegacy:  {nonce, price, gas, to, value, data, v, r, s},
		api.TxAccess:  {chain, nonce, price, gas, to, value, data, access, y, r, s},
		api.TxFee:     {chain, nonce, tip, price, gas, to, value, data, access, y, r, s},
		api.TxCode:    {chain, nonce, tip, price, gas, to, value, data, access, auths, y, r, s},
		api.TxDeposit: {source, from, to, mint, value, gas, system, data},
	}
}
