package tx_test

import (
	"math/big"
	"reflect"
	"strings"

	"rescript/api"
	"rescript/unrlp"
)

// The chapters' sentences, a second time.

// namesOf are the fields that a kind names, in order; of no kind there are none.
func namesOf(kind int) []string {
	return strings.Fields(map[int]string{
		0:   "Nonce Price Gas To Value Data V R S",
		1:   "Chain Nonce Price Gas To Value Data Access Y R S",
		2:   "Chain Nonce Tip Price Gas To Value Data Access Y R S",
		4:   "Chain Nonce Tip Price Gas To Value Data Access Auths Y R S",
		126: "Source From To Mint Value Gas System Data",
	}[kind])
}

// kindsAre are all of them.
func kindsAre() []int { return []int{0, 1, 2, 4, 126} }

// doesName tells whether a kind names a part: a legacy one names two by V.
func doesName(kind int, part string) bool {
	for _, name := range namesOf(kind) {
		if name == part || name == "V" && (part == "Chain" || part == "Y") {
			return true
		}
	}
	return part == "Kind"
}

func checkOf(t api.Tx) api.Errno {
	if len(namesOf(t.Kind)) == 0 {
		return api.ErrKind
	}
	v := reflect.ValueOf(t)
	for i := range v.NumField() {
		f := v.Field(i)
		empty := f.IsZero() || f.Kind() == reflect.Slice && f.Len() == 0
		if !doesName(t.Kind, v.Type().Field(i).Name) && !empty {
			return api.ErrForm
		}
	}
	if isWrongForm(t) {
		return api.ErrForm
	}
	if len(t.Data) > 4096 || len(t.Access) > 16 || len(t.Auths) > 8 {
		return api.ErrLong
	}
	for _, a := range t.Access {
		if len(a.Keys) > 16 {
			return api.ErrLong
		}
	}
	return api.OK
}

// isWrongForm tells of what a kind names.
func isWrongForm(t api.Tx) bool {
	if len(t.To) != 20 && (t.To != "" || t.Kind == 4) {
		return true
	}
	if t.Kind == 126 && (len(t.Source) != 32 || len(t.From) != 20) {
		return true
	}
	if t.Kind == 4 && len(t.Auths) == 0 {
		return true
	}
	if t.Y > 1 || t.Kind == 0 && t.Chain > 1<<62 {
		return true
	}
	for _, a := range t.Access {
		if len(a.Addr) != 20 {
			return true
		}
		for _, key := range a.Keys {
			if len(key) != 32 {
				return true
			}
		}
	}
	for _, a := range t.Auths {
		if len(a.Addr) != 20 || a.Y > 1 {
			return true
		}
	}
	return false
}

// bigOf is a word's number.
func bigOf(w api.Word) *big.Int {
	all := new(big.Int)
	for i := range w {
		all.Add(all.Lsh(all, 64), new(big.Int).SetUint64(w[3-i]))
	}
	return all
}

// numberOf is a number as an item.
func numberOf(n *big.Int) api.Item { return api.Item{Bytes: string(n.Bytes())} }

func smallOf(n uint64) api.Item { return numberOf(new(big.Int).SetUint64(n)) }

// vOf is V.
func vOf(t api.Tx) api.Item {
	n, y := new(big.Int).SetUint64(t.Chain), new(big.Int).SetUint64(t.Y)
	if t.Chain == 0 {
		return numberOf(y.Add(y, big.NewInt(27)))
	}
	n.Add(n, n)
	n.Add(n, big.NewInt(35))
	return numberOf(n.Add(n, y))
}

// itemOf is a field as an item.
func itemOf(t api.Tx, name string) api.Item {
	if name == "V" {
		return vOf(t)
	}
	switch x := reflect.ValueOf(t).FieldByName(name).Interface().(type) {
	case uint64:
		return smallOf(x)
	case api.Word:
		return numberOf(bigOf(x))
	case string:
		return api.Item{Bytes: x}
	case bool:
		if x {
			return api.Item{Bytes: "\x01"}
		}
		return api.Item{}
	case []api.Access:
		all := api.Item{List: true}
		for _, a := range x {
			keys := api.Item{List: true}
			for _, key := range a.Keys {
				keys.Items = append(keys.Items, api.Item{Bytes: key})
			}
			all.Items = append(all.Items, api.Item{List: true, Items: []api.Item{{Bytes: a.Addr}, keys}})
		}
		return all
	case []api.Auth:
		all := api.Item{List: true}
		for _, a := range x {
			all.Items = append(all.Items, api.Item{List: true, Items: []api.Item{
				smallOf(a.Chain), {Bytes: a.Addr}, smallOf(a.Nonce), smallOf(a.Y), numberOf(bigOf(a.R)), numberOf(bigOf(a.S)),
			}})
		}
		return all
	}
	panic(name)
}

// itemsOf are all fields as items.
func itemsOf(t api.Tx) []api.Item {
	var l []api.Item
	for _, name := range namesOf(t.Kind) {
		l = append(l, itemOf(t, name))
	}
	return l
}

// bytesOf are the bytes of an item, by chapter 4.
func bytesOf(it api.Item) string {
	own, by := it.Bytes, 128
	if it.List {
		var all strings.Builder
		for _, in := range it.Items {
			all.WriteString(bytesOf(in))
		}
		own, by = all.String(), 192
	} else if len(own) == 1 && own[0] < 128 {
		return own
	}
	if len(own) < 56 {
		return string([]byte{byte(by + len(own))}) + own
	}
	length := string(big.NewInt(int64(len(own))).Bytes())
	return string([]byte{byte(by + 55 + len(length))}) + length + own
}

// headOf is what is ahead of the list.
func headOf(kind int) string {
	if kind == 0 {
		return ""
	}
	return string([]byte{byte(kind)})
}

// wireOf are the bytes of a kind's head, and of a list of these.
func wireOf(kind int, l ...api.Item) string {
	return headOf(kind) + bytesOf(api.Item{List: true, Items: l})
}

func encodeOf(t api.Tx) (string, api.Errno) {
	if e := checkOf(t); e != api.OK {
		return "", e
	}
	return wireOf(t.Kind, itemsOf(t)...), api.OK
}

func decodeOf(s string) (api.Tx, api.Errno) {
	t, e := toldOf(s)
	if e != api.OK {
		return api.Tx{}, e
	}
	if e := checkOf(t); e != api.OK {
		return api.Tx{}, e
	}
	return t, api.OK
}

// toldOf is what bytes tell, ahead of Check, whatever it is beside an error.
func toldOf(s string) (t api.Tx, e api.Errno) {
	if s == "" {
		return t, api.ErrShort
	}
	own := s
	if s[0] < 192 {
		t.Kind, own = int(s[0]), s[1:]
		if len(namesOf(t.Kind)) == 0 || t.Kind == 0 {
			return t, api.ErrKind
		}
	}
	it, e := unrlp.Decode(own)
	if e != api.OK {
		return t, e
	}
	names := namesOf(t.Kind)
	l, e := listOf(it, len(names), len(names))
	if e != api.OK {
		return t, e
	}
	var v uint64
	for i, name := range names {
		at := any(&v)
		if name != "V" {
			at = reflect.ValueOf(&t).Elem().FieldByName(name).Addr().Interface()
		}
		if e := readOf(at, name, l[i]); e != api.OK {
			return t, e
		}
	}
	if t.Kind != 0 {
		return t, api.OK
	}
	if v < 27 || v >= 29 && v <= 36 || v > 2*(1<<62)+35+1 {
		return t, api.ErrForm
	}
	if v < 29 {
		t.Y = v - 27
		return t, api.OK
	}
	t.Y = 1 - v%2
	t.Chain = (v - 35 - t.Y) / 2
	return t, api.OK
}

// readOf reads a field of an item.
func readOf(at any, name string, it api.Item) (e api.Errno) {
	switch x := at.(type) {
	case *uint64:
		*x, e = readSmall(it)
	case *api.Word:
		*x, e = readWord(it)
	case *string:
		*x = it.Bytes
		switch name {
		case "To":
			if it.List || it.Bytes != "" && len(it.Bytes) != 20 {
				e = api.ErrForm
			}
		case "Data":
			if it.List {
				e = api.ErrForm
			} else if len(it.Bytes) > 4096 {
				e = api.ErrLong
			}
		case "Source":
			*x, e = readText(it, 32)
		case "From":
			*x, e = readText(it, 20)
		}
	case *bool:
		*x = it.Bytes != ""
		if it.List || it.Bytes != "" && it.Bytes != "\x01" {
			e = api.ErrForm
		}
	case *[]api.Access:
		*x, e = readAccess(it)
	case *[]api.Auth:
		*x, e = readAuths(it)
	}
	return e
}

// readNumber reads a number of so many bytes at most.
func readNumber(it api.Item, most int) (*big.Int, api.Errno) {
	n := new(big.Int)
	if it.List {
		return n, api.ErrForm
	}
	if len(it.Bytes) > most {
		return n, api.ErrLong
	}
	if it.Bytes != "" && it.Bytes[0] == 0 {
		return n, api.ErrSpare
	}
	return n.SetBytes([]byte(it.Bytes)), api.OK
}

func readSmall(it api.Item) (uint64, api.Errno) {
	n, e := readNumber(it, 8)
	return n.Uint64(), e
}

func readWord(it api.Item) (w api.Word, e api.Errno) {
	n, e := readNumber(it, 32)
	for i := range w {
		part := new(big.Int).Rsh(n, uint(64*i))
		w[i] = part.And(part, new(big.Int).SetUint64(1<<64-1)).Uint64()
	}
	return w, e
}

func readText(it api.Item, length int) (string, api.Errno) {
	if it.List || len(it.Bytes) != length {
		return "", api.ErrForm
	}
	return it.Bytes, api.OK
}

func listOf(it api.Item, least, most int) ([]api.Item, api.Errno) {
	if !it.List {
		return nil, api.ErrForm
	}
	if len(it.Items) < least {
		return nil, api.ErrShort
	}
	if len(it.Items) > most {
		return nil, api.ErrLong
	}
	return it.Items, api.OK
}

func readAccess(it api.Item) (all []api.Access, e api.Errno) {
	pairs, e := listOf(it, 0, 16)
	if e != api.OK {
		return nil, e
	}
	for _, pair := range pairs {
		parts, e := listOf(pair, 2, 2)
		if e != api.OK {
			return nil, e
		}
		addr, e := readText(parts[0], 20)
		if e != api.OK {
			return nil, e
		}
		keys, e := listOf(parts[1], 0, 16)
		if e != api.OK {
			return nil, e
		}
		one := api.Access{Addr: addr}
		for _, it := range keys {
			key, e := readText(it, 32)
			if e != api.OK {
				return nil, e
			}
			one.Keys = append(one.Keys, key)
		}
		all = append(all, one)
	}
	return all, api.OK
}

func readAuths(it api.Item) (all []api.Auth, e api.Errno) {
	auths, e := listOf(it, 0, 8)
	if e != api.OK {
		return nil, e
	}
	for _, auth := range auths {
		parts, e := listOf(auth, 6, 6)
		if e != api.OK {
			return nil, e
		}
		var one api.Auth
		if one.Chain, e = readSmall(parts[0]); e != api.OK {
			return nil, e
		}
		if one.Addr, e = readText(parts[1], 20); e != api.OK {
			return nil, e
		}
		if one.Nonce, e = readSmall(parts[2]); e != api.OK {
			return nil, e
		}
		if one.Y, e = readSmall(parts[3]); e != api.OK {
			return nil, e
		}
		if one.R, e = readWord(parts[4]); e != api.OK {
			return nil, e
		}
		if one.S, e = readWord(parts[5]); e != api.OK {
			return nil, e
		}
		all = append(all, one)
	}
	return all, api.OK
}
