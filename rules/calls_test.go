// Package rules holds the project's tests of what all layers share: the calls
// with their exact signatures, and the rules of the language they are written in.
package rules

import (
	"rescript/api"
	"rescript/bits"
	"rescript/channel"
	"rescript/codec"
	"rescript/column"
	"rescript/field"
	"rescript/fork"
	"rescript/frame"
	"rescript/genesis"
	"rescript/keccak"
	"rescript/layout"
	"rescript/legal"
	"rescript/merkle"
	"rescript/migrate"
	"rescript/num"
	"rescript/output"
	"rescript/receipt"
	"rescript/rlp"
	"rescript/shape"
	"rescript/single"
	"rescript/span"
	"rescript/ssz"
	"rescript/state"
	"rescript/tx"
	"rescript/unrlp"
	"rescript/word"
	"rescript/wrap"
)

// Layers 1 to 6: a signature that is changed does not compile here.
var (
	_ func(uint64) api.Word                                   = word.Of
	_ func(a, b api.Word) (api.Word, api.Errno)               = word.Add
	_ func(a, b api.Word) (api.Word, api.Errno)               = word.Sub
	_ func(a, b api.Word) bool                                = word.Less
	_ func(api.Word) string                                   = word.Bytes
	_ func(string) (api.Word, api.Errno)                      = word.Parse
	_ func(api.Word) string                                   = word.Fixed
	_ func(string) (api.Word, api.Errno)                      = word.Unfixed
	_ func(api.Word) (uint64, bool)                           = word.Small
	_ func(uint64) string                                     = num.Be
	_ func(string) (uint64, api.Errno)                        = num.Unbe
	_ func(uint64, int) (string, api.Errno)                   = num.Le
	_ func(string) (uint64, api.Errno)                        = num.Unle
	_ func(uint64) string                                     = num.Var
	_ func(string, int) (uint64, int, api.Errno)              = num.Unvar
	_ func([25]uint64) [25]uint64                             = keccak.Permute
	_ func(string) string                                     = keccak.Sum
	_ func(int) (string, api.Errno)                           = keccak.Pad
	_ func(api.Item) api.Errno                                = rlp.Check
	_ func(api.Item) int                                      = rlp.Deep
	_ func(api.Item) int                                      = rlp.Size
	_ func(api.Item) (string, api.Errno)                      = rlp.Encode
	_ func(a, b api.Item) bool                                = rlp.Same
	_ func(string) (api.Item, api.Errno)                      = unrlp.Decode
	_ func(string, int) (int, int, bool, api.Errno)           = unrlp.Head
	_ func(string, int) (int, api.Errno)                      = unrlp.Next
	_ func(uint64) api.Item                                   = field.Number
	_ func(api.Word) api.Item                                 = field.Word
	_ func(string) api.Item                                   = field.Text
	_ func(bool) api.Item                                     = field.Bool
	_ func(...api.Item) api.Item                              = field.List
	_ func([]string) api.Item                                 = field.Texts
	_ func(api.Item) (uint64, api.Errno)                      = field.GetNumber
	_ func(api.Item) (api.Word, api.Errno)                    = field.GetWord
	_ func(it api.Item, a, b int) (string, api.Errno)         = field.GetText
	_ func(api.Item) (bool, api.Errno)                        = field.GetBool
	_ func(it api.Item, a, b int) ([]api.Item, api.Errno)     = field.GetList
	_ func(it api.Item, many, a, b int) ([]string, api.Errno) = field.GetTexts
	_ func(api.Item) (string, api.Errno)                      = field.GetAddr
)

// Layers 7 to 16.
var (
	_ func(api.Type) api.Errno                                 = shape.Check
	_ func(api.Type) bool                                      = shape.Fixed
	_ func(api.Type) int                                       = shape.Size
	_ func(api.Type, api.Val) api.Errno                        = shape.Fits
	_ func(a, b api.Val) bool                                  = shape.Same
	_ func(api.Type, api.Val) (string, api.Errno)              = ssz.Put
	_ func(api.Type, string) (api.Val, api.Errno)              = ssz.Get
	_ func([]string, int) (string, api.Errno)                  = merkle.Tree
	_ func(string, uint64) (string, api.Errno)                 = merkle.Mix
	_ func(api.Type, api.Val) (string, api.Errno)              = merkle.Root
	_ func(api.Tx) api.Errno                                   = tx.Check
	_ func(api.Tx) (string, api.Errno)                         = tx.Encode
	_ func(string) (api.Tx, api.Errno)                         = tx.Decode
	_ func(a, b api.Tx) bool                                   = tx.Same
	_ func(api.Receipt) api.Errno                              = receipt.Check
	_ func(api.Receipt) int                                    = receipt.Form
	_ func(api.Receipt) (string, api.Errno)                    = receipt.Encode
	_ func(string) (api.Receipt, api.Errno)                    = receipt.Decode
	_ func(a, b api.Receipt) bool                              = receipt.Same
	_ func(api.Schedule) api.Errno                             = fork.Check
	_ func(api.Schedule, uint64) (int, api.Errno)              = fork.Active
	_ func(api.Schedule, int) (uint64, api.Errno)              = fork.From
	_ func(api.Schedule) []int                                 = fork.Ever
	_ func(kind, version int) (int, int, api.Errno)            = legal.Range
	_ func(f, kind, version int) bool                          = legal.Legal
	_ func(f, kind int) []int                                  = legal.Versions
	_ func(f, kind int) (int, api.Errno)                       = legal.Latest
	_ func(api.Frame) api.Errno                                = frame.Check
	_ func([]api.Frame) (string, api.Errno)                    = frame.Put
	_ func(string) ([]api.Frame, api.Errno)                    = frame.Get
	_ func(api.Frame) (string, api.Errno)                      = frame.One
	_ func(string, int) (api.Frame, int, api.Errno)            = frame.Next
	_ func(id, data string, size int) ([]api.Frame, api.Errno) = channel.Split
	_ func([]api.Frame) (string, api.Errno)                    = channel.Join
	_ func([]api.Frame, api.Frame) ([]api.Frame, api.Errno)    = channel.Add
	_ func([]api.Frame) bool                                   = channel.Ready
	_ func(api.Single) api.Errno                               = single.Check
	_ func(api.Single) (string, api.Errno)                     = single.Put
	_ func(string) (api.Single, api.Errno)                     = single.Get
	_ func(a, b api.Single) bool                               = single.Same
)

// Layers 17 to 26.
var (
	_ func([]bool) string                                                  = bits.Pack
	_ func(string, int) ([]bool, api.Errno)                                = bits.Unpack
	_ func([]bool) int                                                     = bits.Count
	_ func([]uint64) string                                                = bits.Row
	_ func(s string, at, n int) ([]uint64, int, api.Errno)                 = bits.Unrow
	_ func([]api.Tx, uint64) api.Errno                                     = column.Check
	_ func([]api.Tx, uint64) (string, api.Errno)                           = column.Put
	_ func(s string, at, n int, chain uint64) ([]api.Tx, int, api.Errno)   = column.Get
	_ func(api.Span, uint64) api.Errno                                     = span.Check
	_ func(api.Span, uint64) (string, api.Errno)                           = span.Put
	_ func(string, uint64) (api.Span, api.Errno)                           = span.Get
	_ func(a, b api.Span) bool                                             = span.Same
	_ func(api.Span) int                                                   = span.Many
	_ func(int, []string) api.Errno                                        = wrap.Check
	_ func(int, []string) (string, api.Errno)                              = wrap.Put
	_ func(string) (int, []string, api.Errno)                              = wrap.Get
	_ func(string) (int, api.Errno)                                        = wrap.Version
	_ func(int, [3]string, uint64) (string, api.Errno)                     = output.Put
	_ func(string) (int, [3]string, uint64, api.Errno)                     = output.Get
	_ func(int, [3]string, uint64) (string, api.Errno)                     = output.Root
	_ func(api.State) api.Errno                                            = state.Check
	_ func(api.State, string) (api.Acct, bool)                             = state.Find
	_ func(api.State, api.Acct) (api.State, api.Errno)                     = state.Put
	_ func(api.Acct, string) string                                        = state.Slot
	_ func(a api.Acct, key, val string) (api.Acct, api.Errno)              = state.Set
	_ func(api.State) (string, api.Errno)                                  = state.Bytes
	_ func(string) (api.State, api.Errno)                                  = state.Parse
	_ func(api.State) (string, api.Errno)                                  = state.Root
	_ func(a, b api.State) bool                                            = state.Same
	_ func(int, api.Record) api.Errno                                      = layout.Fits
	_ func(f, which int) (string, bool, api.Errno)                         = layout.Code
	_ func(int) string                                                     = layout.Addr
	_ func(int, api.State, api.Record) (api.State, api.Errno)              = layout.Write
	_ func(int, api.State) (api.Record, api.Errno)                         = layout.Read
	_ func(int, api.State) (api.State, api.Errno)                          = layout.Rest
	_ func(int, api.State) api.Errno                                       = layout.Check
	_ func(int, api.Record) (api.Record, api.Errno)                        = migrate.Turn
	_ func(int, api.State) (api.State, api.Errno)                          = migrate.Step
	_ func(f, g int, s api.State) (api.State, api.Errno)                   = migrate.Migrate
	_ func(f, g int, r api.Record) (api.Record, api.Errno)                 = migrate.Turns
	_ func(api.Genesis) (api.State, int, api.Errno)                        = genesis.Build
	_ func(api.Genesis) (string, api.Errno)                                = genesis.Hash
	_ func(api.Genesis) (string, api.Errno)                                = genesis.Claim
	_ func(api.Msg) api.Errno                                              = codec.Check
	_ func(api.Msg, uint64) (string, api.Errno)                            = codec.Close
	_ func(int, string, uint64) (api.Msg, api.Errno)                       = codec.Open
	_ func(int, api.Msg) bool                                              = codec.Legal
	_ func(api.Schedule, uint64, api.Msg, uint64) (string, api.Errno)      = codec.Encode
	_ func(api.Schedule, uint64, int, string, uint64) (api.Msg, api.Errno) = codec.Decode
	_ func(a, b api.Msg) bool                                              = codec.Same
)
