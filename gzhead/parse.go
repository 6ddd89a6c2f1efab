package gzhead

import (
	"strings"

	"collimator/api"
	"collimator/vint"
)

// Parse returns the header that is encoded at byte offset at of s, and the offset after it.
func Parse(s string, at int) (api.Head, int, api.Errno) {
	flags, e := begin(s, at)
	if e != api.OK {
		return api.Head{}, 0, e
	}
	c := &cursor{s: s, at: at + len(magic) + byteWidth, flags: flags}
	h := api.Head{Text: flags&textFlag != 0, Sum: flags&sumFlag != 0, Flags: flags & fieldFlags}
	h.Time = c.number(timeWidth)
	h.Level = c.number(byteWidth)
	h.Os = c.number(byteWidth)
	h.Extra = c.field(extraFlag, c.sized)
	h.Name = c.field(nameFlag, c.zeroEnded)
	h.Note = c.field(noteFlag, c.zeroEnded)
	if h.Sum {
		c.sum(at)
	}
	if c.e != api.OK {
		return api.Head{}, 0, c.e
	}
	return h, c.at, api.OK
}

// begin returns the byte after the magic of a header that has all the bytes that every header has.
func begin(s string, at int) (int, api.Errno) {
	switch {
	case at < 0:
		return 0, api.ErrArg
	// The difference can't overflow; at + fewest might.
	case len(s)-at < fewest:
		return 0, api.ErrShort
	case !strings.HasPrefix(s[at:], magic):
		return 0, api.ErrMagic
	}
	flags := int(s[at+len(magic)])
	if flags >= flagsEnd {
		return 0, api.ErrFlags
	}
	return flags, api.OK
}

// cursor goes through the rest of a header. It stops at its first error.
type cursor struct {
	s     string
	at    int
	flags int
	e     api.Errno
}

// number reads a fixed number, or returns 0.
func (c *cursor) number(width int) int {
	if c.e != api.OK {
		return 0
	}
	n, e := vint.Number(c.s, c.at, width)
	if e != api.OK {
		c.e = e
		return 0
	}
	c.at += width
	return n
}

// field reads a field if the flags contain it.
func (c *cursor) field(flag int, read func() string) string {
	if c.e != api.OK || c.flags&flag == 0 {
		return ""
	}
	return read()
}

// sized reads a string that follows its length.
func (c *cursor) sized() string {
	size := c.number(sizeWidth)
	if size > len(c.s)-c.at {
		c.e = api.ErrShort
		return ""
	}
	return c.take(size)
}

// zeroEnded reads a string and the byte 0 that ends it.
func (c *cursor) zeroEnded() string {
	size := strings.IndexByte(c.s[c.at:], 0)
	if size < 0 {
		c.e = api.ErrShort
		return ""
	}
	field := c.take(size)
	c.at++
	return field
}

// take reads bytes that are there.
func (c *cursor) take(size int) string {
	from := c.at
	c.at += size
	// A copy, so that a short field does not keep the whole of s in memory.
	return strings.Clone(c.s[from:c.at])
}

// sum reads the checksum of the header that begins at an offset, and compares it.
func (c *cursor) sum(from int) {
	end := c.at
	found := c.number(sumWidth)
	if c.e == api.OK && found != checksum(c.s[from:end]) {
		c.e = api.ErrSum
	}
}
