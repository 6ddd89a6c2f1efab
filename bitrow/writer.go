package bitrow

import "collimator/api"

// Writer has the bits that were appended to it.
type Writer struct {
	self  *Writer // the writer itself, so that neither the zero value nor the copy of a struct, which would share its bytes, passes for a writer that Open returned
	bytes []byte  // the bits, filled up with bits 0 to whole bytes
	size  int     // the number of bits
}

// Open returns a writer without bits.
func Open() *Writer {
	w := &Writer{}
	w.self = w
	return w
}

// isNone reports whether w is nil or was not returned by this package.
func (w *Writer) isNone() bool {
	return w == nil || w.self != w
}

// Put appends the n bits of v, the lowest one first.
func (w *Writer) Put(v, n int) api.Errno {
	return w.number(v, n, w.lowestFirst)
}

// Code appends the n bits of v, the highest one first.
func (w *Writer) Code(v, n int) api.Errno {
	return w.number(v, n, w.highestFirst)
}

// number checks v and n as they are given, whatever order the operation appends the bits in.
func (w *Writer) number(v, n int, add func(v, n int)) api.Errno {
	if w.isNone() {
		return api.ErrNil
	}
	// No bits are left of a v from 0 to 2^n - 1 behind its n bits; a negative one keeps its sign.
	if !isCount(n) || v>>n != 0 {
		return api.ErrArg
	}
	add(v, n)
	return api.OK
}

func (w *Writer) lowestFirst(v, n int) {
	for n > 0 {
		used := w.size % byteBits
		if used == 0 {
			w.bytes = append(w.bytes, 0)
		}
		w.bytes[len(w.bytes)-1] |= byte(v << used)
		taken := min(byteBits-used, n)
		w.size += taken
		v >>= taken
		n -= taken
	}
}

func (w *Writer) highestFirst(v, n int) {
	w.lowestFirst(Turn(v, n), n)
}

// Align appends bits 0 up to the next multiple of 8.
func (w *Writer) Align() {
	if w.isNone() {
		return
	}
	// The bits that fill up the last byte are 0 already.
	w.size = byteBits * len(w.bytes)
}

// Bytes aligns the writer and appends the bytes of s.
func (w *Writer) Bytes(s string) {
	if w.isNone() {
		return
	}
	w.bytes = append(w.bytes, s...)
	w.Align()
}

// Len returns the number of bits.
func (w *Writer) Len() int {
	if w.isNone() {
		return 0
	}
	return w.size
}

// Text returns the bits as a string, filled up with bits 0 to whole bytes.
func (w *Writer) Text() string {
	if w.isNone() {
		return ""
	}
	return string(w.bytes)
}
