package pack_test

import (
	"slices"
	"strings"
	"testing"

	"collimator/api"
	"collimator/pack"
)

const most = 1 << 24 // the bytes of the longest text

// full is parts of so many bytes: as few as possible.
func full(size int) []pack.Part {
	l := []pack.Part{}
	for size > 0 {
		n := min(size, 65535)
		l = append(l, stored(strings.Repeat("f", n)))
		size -= n
	}
	return l
}

// checkFull expects an error, or OK, of parts behind so many bytes that are represented by others.
func checkFull(t *testing.T, size int, want api.Errno, behind ...pack.Part) {
	t.Helper()
	l := append(full(size), behind...)
	text, e := pack.Text(l)
	if e != want || e != api.OK && text != "" || e == api.OK && !strings.HasPrefix(text, strings.Repeat("f", size)) {
		t.Fatalf("Text of %s behind %d bytes has %d bytes, error %d; want %d", briefParts(behind), size, len(text), e, want)
	}
	s, e := pack.Encode(l)
	if e != want || e != api.OK && s != "" {
		t.Fatalf("Encode of %s behind %d bytes has %d bytes, error %d; want %d", briefParts(behind), size, len(s), e, want)
	}
	if e == api.OK {
		checkBlocks(t, s, text, len(l))
	}
}

// P11.1: as many bytes as there may be, with a literal, a copy and a Stored part as the last ones, and parts without bytes behind them.
func TestLongestText(t *testing.T) {
	checkFull(t, most, api.OK)
	checkFull(t, most, api.OK, stored(""), fixed(""), dynamic(""))
	checkFull(t, most-1, api.OK, fixed("a"))
	checkFull(t, most-3, api.OK, dynamic("", copied(3, 32768)), fixed(""))
	checkFull(t, most-258, api.OK, fixed("", copied(258, 1)))
	checkFull(t, most-6, api.OK, stored("abcdef"), stored(""))
}

// P11.1: one byte more, and many more.
func TestTooLongText(t *testing.T) {
	checkFull(t, most, api.ErrBig, fixed("a"))
	checkFull(t, most, api.ErrBig, dynamic("a"))
	checkFull(t, most, api.ErrBig, fixed("", copied(3, 1)))
	checkFull(t, most, api.ErrBig, stored("a"))
	checkFull(t, most, api.ErrBig, stored(noise(65535)))
	checkFull(t, most-1, api.ErrBig, fixed("ab"))
	checkFull(t, most-1, api.ErrBig, stored("ab"))
	checkFull(t, most-2, api.ErrBig, fixed("", copied(3, 32768)))
	checkFull(t, most-257, api.ErrBig, dynamic("", copied(258, 1)))
	checkFull(t, most-1, api.ErrBig, stored(""), fixed("a"), stored(""), fixed("b"))
	checkFull(t, most+1, api.ErrBig)
	checkFull(t, 2*most, api.ErrBig)
}

// P11.1: which error is the first one near the end of what there may be.
func TestErrorsBesideBig(t *testing.T) {
	tooBig := stored(noise(65536))
	checkFull(t, most, api.ErrArg, tooBig)
	checkFull(t, most, api.ErrArg, pack.Part{Kind: 3, Text: "a"})
	checkFull(t, most, api.ErrArg, fixed("", copied(2, 1)))
	checkFull(t, most, api.ErrArg, fixed("", copied(258, 32769)))
	checkFull(t, most, api.ErrBig, fixed("a", copied(2, 1)))
	checkFull(t, most, api.ErrBig, fixed("", copied(3, 1), copied(2, 1)))
	checkFull(t, most, api.ErrBig, stored("a"), tooBig)
	checkFull(t, most, api.ErrBig, dynamic("a"), pack.Part{Kind: 3})
	checkFull(t, most-2, api.ErrArg, fixed("ab", copied(259, 1), api.Op{Lit: 'c'}))
	// A Dynamic part without lengths can't be written, but the error of Text is ahead of it.
	unheaded := []pack.Part{{Kind: api.Dynamic}}
	checkEncode(t, append(unheaded, full(most)...), "", api.ErrArg)
	checkEncode(t, append(unheaded, full(most+1)...), "", api.ErrBig)
}

// Many ops up to the end of what there may be: literals only, and copies only.
func TestManyOps(t *testing.T) {
	const size = 1 << 18
	literals := pack.Part{Kind: api.Fixed, Ops: slices.Repeat(lits("abc\xff"), size/4)}
	checkFull(t, most-size, api.OK, literals)
	checkFull(t, most-size+1, api.ErrBig, literals)
	copies := dynamic("", slices.Repeat([]api.Op{copied(4, 1)}, size/4)...)
	checkFull(t, most-size, api.OK, copies)
	checkFull(t, most-size+1, api.ErrBig, copies)
}

// Ops and Split of the longest text.
func TestLongOps(t *testing.T) {
	if l := pack.Ops(strings.Repeat("z", most)); len(l) != 1+(most-1+257)/258 {
		t.Errorf("%d ops", len(l))
	}
	checkRestored(t, strings.Repeat(noise(100)+strings.Repeat("abc", 300), most/1000+1)[:most], 0)
}
