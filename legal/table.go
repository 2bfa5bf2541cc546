package legal

import "rescript/api"

// The kinds of messages.
const (
	transaction = 1 + iota
	deposit
	batch
	channel
	output
)

// format is a kind of messages, and a version of it.
type format struct {
	kind, version int
}

// reach is from which fork, and up to which, a format is legal.
type reach struct {
	from, to int
}

func (r reach) has(f int) bool { return r.from <= f && f <= r.to }

// last is the last fork there is.
const last = api.MaxForks - 1

// table tells all formats, each with where it is legal.
func table() map[format]reach {
	return map[format]reach{
		{transaction, api.TxLegacy}:  {0, last},
		{transaction, api.TxAccess}:  {0, last},
		{transaction, api.TxFee}:     {0, last},
		{transaction, api.TxDeposit}: {0, last},
		{transaction, api.TxCode}:    {5, last},
		{deposit, 0}:                 {0, 0},
		{deposit, 1}:                 {1, 1},
		{deposit, 2}:                 {2, last},
		{batch, 0}:                   {0, last},
		{batch, 1}:                   {3, last},
		{channel, 0}:                 {0, last},
		{channel, 2}:                 {4, last},
		{output, 0}:                  {0, 4},
		{output, 1}:                  {5, last},
	}
}
