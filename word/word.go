// Package word is layer 1: see shared/doc/01-word.md.
package word

import (
	"iter"
	"math/bits"
	"strings"

	"rescript/api"
)

const (
	partBytes = 8
	wordBytes = 32
)

// Of is a word.
func Of(n uint64) api.Word { return api.Word{n} }

// Add is a sum.
func Add(a, b api.Word) (api.Word, api.Errno) {
	var sum api.Word
	var carry uint64
	for i := range len(sum) {
		sum[i], carry = bits.Add64(a[i], b[i], carry)
	}
	return unlessOver(sum, carry)
}

// Sub is a difference.
func Sub(a, b api.Word) (api.Word, api.Errno) {
	var rest api.Word
	var borrow uint64
	for i := range len(rest) {
		rest[i], borrow = bits.Sub64(a[i], b[i], borrow)
	}
	return unlessOver(rest, borrow)
}

// unlessOver drops a result that went round: no caller may see it.
func unlessOver(w api.Word, carry uint64) (api.Word, api.Errno) {
	if carry != 0 {
		return api.Word{}, api.ErrOver
	}
	return w, api.OK
}

// Less tells whether one is below the other one.
func Less(a, b api.Word) bool {
	for i, part := range fromTop(a) {
		if part != b[i] {
			return part < b[i]
		}
	}
	return false
}

// Bytes are a word's bytes, no more than it needs.
func Bytes(w api.Word) string { return strings.TrimLeft(Fixed(w), "\x00") }

// Parse is the word of bytes.
func Parse(s string) (api.Word, api.Errno) {
	if len(s) > wordBytes {
		return api.Word{}, api.ErrLong
	}
	if strings.HasPrefix(s, "\x00") {
		return api.Word{}, api.ErrSpare
	}
	return Unfixed(strings.Repeat("\x00", wordBytes-len(s)) + s)
}

// Fixed are a word's 32 bytes.
func Fixed(w api.Word) string {
	out := make([]byte, 0, wordBytes)
	for _, part := range fromTop(w) {
		for i := range partBytes {
			out = append(out, byte(part>>(8*(partBytes-1-i))))
		}
	}
	return string(out)
}

// Unfixed is the word of 32 bytes.
func Unfixed(s string) (api.Word, api.Errno) {
	if len(s) != wordBytes {
		return api.Word{}, api.ErrForm
	}
	var w api.Word
	for i := range len(w) {
		for j := range partBytes {
			w[i] = w[i]<<8 | uint64(s[(len(w)-1-i)*partBytes+j])
		}
	}
	return w, api.OK
}

// Small is a number that is small.
func Small(w api.Word) (uint64, bool) {
	if w != Of(w[0]) {
		return 0, false
	}
	return w[0], true
}

// fromTop tells the parts with their places, the highest one first: the order of
// bytes, and the one in which the first difference settles which word is less.
func fromTop(w api.Word) iter.Seq2[int, uint64] {
	return func(yield func(int, uint64) bool) {
		for i := range len(w) {
			at := len(w) - 1 - i
			if !yield(at, w[at]) {
				return
			}
		}
	}
}
