package bitrow

import (
	"strings"

	"collimator/api"
)

// Reader has a string and a position, which is the number of its next bit.
type Reader struct {
	self *Reader // the reader itself, so that neither the zero value nor the copy of a struct passes for a reader that New returned
	text string
	at   int
}

// New returns a reader of s at the bit position at.
func New(s string, at int) (*Reader, api.Errno) {
	if at < 0 || at > byteBits*len(s) {
		return nil, api.ErrArg
	}
	return reader(s, at), api.OK
}

func reader(s string, at int) *Reader {
	r := &Reader{text: s, at: at}
	r.self = r
	return r
}

// isNone reports whether r is nil or was not returned by this package.
func (r *Reader) isNone() bool {
	return r == nil || r.self != r
}

// left is Left without the check that there is a reader.
func (r *Reader) left() int {
	return byteBits*len(r.text) - r.at
}

// check returns the error of advancing by n bits.
func (r *Reader) check(n int) api.Errno {
	switch {
	case r.isNone():
		return api.ErrNil
	case !isCount(n):
		return api.ErrArg
	case r.left() < n:
		return api.ErrShort
	}
	return api.OK
}

// Bits returns the next n bits as a number and advances the position past them.
func (r *Reader) Bits(n int) (int, api.Errno) {
	if e := r.check(n); e != api.OK {
		return 0, e
	}
	v := r.Peek(n)
	r.at += n
	return v, api.OK
}

// Peek returns the next n bits as a number without changing the position; bits after the end count as 0.
func (r *Reader) Peek(n int) int {
	if r.isNone() || !isCount(n) {
		return 0
	}
	first, before := r.at/byteBits, r.at%byteBits
	last := min(first+(before+n+byteBits-1)/byteBits, len(r.text))
	word := 0
	for i := range last - first {
		word |= int(r.text[first+i]) << (byteBits * i)
	}
	return word >> before & (1<<n - 1)
}

// Skip advances the position by n bits.
func (r *Reader) Skip(n int) api.Errno {
	if e := r.check(n); e != api.OK {
		return e
	}
	r.at += n
	return api.OK
}

// Align advances the position to the next multiple of 8, if it is not one.
func (r *Reader) Align() {
	if r.isNone() {
		return
	}
	// The end is a multiple of 8, so this does not pass it.
	r.at = (r.at + byteBits - 1) / byteBits * byteBits
}

// Bytes returns the next n bytes and advances the position past them.
func (r *Reader) Bytes(n int) (string, api.Errno) {
	switch {
	case r.isNone():
		return "", api.ErrNil
	case n < 0 || r.at%byteBits != 0:
		return "", api.ErrArg
	case r.left()/byteBits < n:
		return "", api.ErrShort
	}
	from := r.at / byteBits
	r.at += byteBits * n
	// A copy, so that a short string does not keep the whole text in memory.
	return strings.Clone(r.text[from : from+n]), api.OK
}

// At returns the position.
func (r *Reader) At() int {
	if r.isNone() {
		return 0
	}
	return r.at
}

// Left returns the number of bits from the position to the end.
func (r *Reader) Left() int {
	if r.isNone() {
		return 0
	}
	return r.left()
}

// Copy returns an independent reader of the same string at the same position.
func (r *Reader) Copy() *Reader {
	if r.isNone() {
		return nil
	}
	return reader(r.text, r.at)
}
