package charset

import (
	"strings"

	"collimator/api"
)

const (
	// mostListed is the number of bytes of the largest set that is shown by its own bytes; a larger one is shown by those that it does not contain.
	mostListed = 128
	// shortestRun is the number of bytes of the shortest run that is shown by its first and its last byte.
	shortestRun = 3
	// escaped are the printable bytes that have a meaning of their own in an expression.
	escaped = `\[](){}*+?|.-^/"`
	digits  = "0123456789abcdef"
)

// Show is the notation of a set.
func Show(a api.Set) string {
	if c, ok := only(a); ok {
		return string(appendByte(nil, c))
	}
	out := []byte{'['}
	if Count(a) > mostListed {
		out = append(out, '^')
		a = Not(a)
	}
	out = appendList(out, Bytes(a))
	return string(append(out, ']'))
}

// only is the byte of a set that contains exactly one.
func only(a api.Set) (byte, bool) {
	list := Bytes(a)
	if list == "" || a != Of(list[:1]) {
		return 0, false
	}
	return list[0], true
}

// appendList appends the bytes of an ascending list, run by run.
func appendList(out []byte, list string) []byte {
	for list != "" {
		n := runLength(list)
		out = appendRun(out, list[:n])
		list = list[n:]
	}
	return out
}

// runLength is the number of consecutive bytes that a list begins with.
func runLength(list string) int {
	n := 1
	for n < len(list) && list[n] == list[n-1]+1 {
		n++
	}
	return n
}

func appendRun(out []byte, run string) []byte {
	if len(run) >= shortestRun {
		out = append(appendByte(out, run[0]), '-')
		return appendByte(out, run[len(run)-1])
	}
	for i := range len(run) {
		out = appendByte(out, run[i])
	}
	return out
}

// appendByte appends the notation of a byte.
func appendByte(out []byte, c byte) []byte {
	switch {
	case c == '\n':
		return append(out, `\n`...)
	case c == '\t':
		return append(out, `\t`...)
	case c == ' ':
		return append(out, `\s`...)
	case c < ' ' || c > '~':
		return append(out, '\\', 'x', digits[c/16], digits[c%16])
	case strings.IndexByte(escaped, c) >= 0:
		return append(out, '\\', c)
	}
	return append(out, c)
}
