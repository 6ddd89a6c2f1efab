// Package vint is layer 1: variable-length and fixed-width integers, and strings with a length prefix. See shared/doc/01-vint.md.
package vint

import (
	"strings"

	"collimator/api"
)

const (
	groupBits = 7
	more      = 1 << groupBits // the bit of a varint's byte that says that another one follows
	longest   = 9              // nine groups of seven bits are the 63 bits of the largest int
)

// Put returns the varint of n.
func Put(n int) (string, api.Errno) {
	if n < 0 {
		return "", api.ErrArg
	}
	return varint(n), api.OK
}

// varint encodes a number that is not below 0.
func varint(n int) string {
	var out []byte
	for n >= more {
		out = append(out, byte(n%more)|more)
		n >>= groupBits
	}
	return string(append(out, byte(n)))
}

// Get returns the number whose varint begins at byte offset at of s, and the offset after it.
func Get(s string, at int) (int, int, api.Errno) {
	if at < 0 {
		return 0, 0, api.ErrArg
	}
	if at >= len(s) {
		return 0, 0, api.ErrShort
	}
	// The bytes are counted from 0 on, because at + longest might overflow.
	rest := s[at:]
	n, size := 0, 0
groups:
	for i := range longest {
		if i == len(rest) {
			return 0, 0, api.ErrShort
		}
		b := rest[i]
		n |= int(b%more) << (groupBits * i)
		switch {
		case b >= more:
			continue
		case b == 0 && i > 0:
			// A shorter varint encodes the same number.
			return 0, 0, api.ErrForm
		default:
			size = i + 1
			break groups
		}
	}
	if size == 0 {
		return 0, 0, api.ErrForm
	}
	return n, at + size, api.OK
}

// Fixed returns the encoding of n in width bytes.
func Fixed(n, width int) (string, api.Errno) {
	if !isWidth(width) || n < 0 {
		return "", api.ErrArg
	}
	if width < 8 && n>>(8*width) != 0 {
		return "", api.ErrArg
	}
	out := make([]byte, width)
	for i := range out {
		out[i] = byte(n >> (8 * i))
	}
	return string(out), api.OK
}

// Number returns the fixed number of that width at byte offset at of s.
func Number(s string, at, width int) (int, api.Errno) {
	if !isWidth(width) || at < 0 {
		return 0, api.ErrArg
	}
	// The difference can't overflow; at + width might.
	if len(s)-at < width {
		return 0, api.ErrShort
	}
	n := 0
	for i := range width {
		n |= int(s[at+i]) << (8 * i)
	}
	// Only eight bytes reach the sign bit, and they set it from 2^63 on.
	if n < 0 {
		return 0, api.ErrRange
	}
	return n, api.OK
}

func isWidth(width int) bool {
	return width == 1 || width == 2 || width == 4 || width == 8
}

// Text returns s after the varint of its length.
func Text(s string) string {
	return varint(len(s)) + s
}

// Next returns the string that Text encoded at byte offset at of s, and the offset after it.
func Next(s string, at int) (string, int, api.Errno) {
	size, from, e := Get(s, at)
	if e != api.OK {
		return "", 0, e
	}
	if len(s)-from < size {
		return "", 0, api.ErrShort
	}
	end := from + size
	// A copy, so that a short string does not keep the whole of s in memory.
	return strings.Clone(s[from:end]), end, api.OK
}
