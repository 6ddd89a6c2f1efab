package gzip_test

import (
	"slices"
	"strings"
	"testing"

	"collimator/api"
	"collimator/blame"
	"collimator/gzip"
	"collimator/inflate"
	"collimator/pack"
)

const most = 1 << 24 // the bytes of the longest archive, and of the longest text

// longArchive is a valid archive of so many bytes: Stored blocks, and a Name that fills it up.
func longArchive(t *testing.T, size int) (string, gzip.Info) {
	t.Helper()
	const pieces = 255
	text := strings.Repeat("0123456789abcde", pieces*65535/15)
	h := api.Head{Flags: 8}
	h.Name = strings.Repeat("n", size-len(start)-1-5*pieces-len(text)-8)
	s := build(t, h, slices.Repeat([]pack.Part{stored(text[:65535])}, pieces)...)
	if len(s) != size {
		t.Fatalf("%d bytes instead of %d", len(s), size)
	}
	from := len(start) + len(h.Name) + 1
	want := gzip.Info{Head: h, From: 8 * from, End: 8 * (size - 8), Text: text}
	for i := range pieces {
		want.Starts = append(want.Starts, inflate.Start{Bit: 8 * (from + 65540*i), Out: 65535 * i})
	}
	return s, want
}

// P13.1: an archive of MaxArchive bytes, and of one byte less.
func TestLongestArchive(t *testing.T) {
	for _, size := range []int{most - 1, most} {
		s, want := longArchive(t, size)
		checkParse(t, s, want)
	}
}

// P13.1: an archive of more bytes than that is not one, although it is built.
func TestTooLongArchive(t *testing.T) {
	for _, size := range []int{most + 1, most + 2, most + 1000} {
		s, _ := longArchive(t, size)
		checkError(t, s, "big at 16777216")
	}
}

// P13.1: ErrBig comes before everything else; with just MaxArchive bytes the other errors are found.
func TestBigIsFirst(t *testing.T) {
	long := strings.Repeat("\x00", most+1)
	archive := build(t, api.Head{Os: 255}, fixed("a"))
	for _, c := range []struct{ s, say string }{
		{"", "magic at 0"},
		{start[:3] + "\x20" + start[4:], "flags at 0"},
		{start[:3] + "\x08" + start[4:] + strings.Repeat("n", most), "short at 0"},
		{start[:3] + "\x02" + start[4:], "sum at 0"},
		{start + "\x07", "form at 10: block at 0"},
		{start + bits("1"+fixedA), "sum at 13"},
		{start + bits("1"+fixedA) + tail("a")[:4], "size at 13"},
		{archive, "more at 21"},
	} {
		s := c.s + long
		checkError(t, s[:most], c.say)
		checkError(t, s[:most+1], "big at 16777216")
	}
	checkError(t, start+strings.Repeat("\x00\xff\xff\x00\x00"+strings.Repeat("z", 65535), 256)[:most-10], formAt(10, "short", most-10-5*256))
	s, _ := longArchive(t, most)
	checkError(t, s[:most-1], at("short", most-1))
	checkError(t, s+"\x00", "big at 16777216")
	s, _ = longArchive(t, most-1)
	checkError(t, s+"\x00", at("more", most-1))
}

// runOf is a part that produces that many bytes a.
func runOf(size int) pack.Part {
	p := fixed("a")
	for size--; size >= 258+3; size -= 258 {
		p.Ops = append(p.Ops, repeat(258, 1))
	}
	for ; size > 0; size-- {
		p.Ops = append(p.Ops, api.Op{Lit: 'a'})
	}
	return p
}

// A text of MaxText bytes in a short archive; a byte more is an error of decompression, with MaxText bytes before it.
func TestLongestText(t *testing.T) {
	s := build(t, api.Head{Os: 255}, runOf(most))
	checkParse(t, s, gzip.Info{Head: api.Head{Os: 255}, From: 80, End: lastBit(s), Starts: []inflate.Start{{Bit: 80}}, Text: strings.Repeat("a", most)})
	checkError(t, s+"\x00", at("more", len(s)))
	checkError(t, change(s, len(s)-1, 1), at("size", len(s)-8))
	blocks, e := pack.Encode([]pack.Part{runOf(most), stored("")})
	if e != api.OK {
		t.Fatal(e)
	}
	// In place of the last block, which has no bytes, there is one with a byte.
	blocks = strings.TrimSuffix(blocks, "\x00\x00\xff\xff") + "\x01\x00\xfe\xffz"
	checkError(t, start+blocks+tail(strings.Repeat("a", most)+"z"), formAt(10, "big", most))
	checkError(t, start+blocks, formAt(10, "big", most))
}

// lastBit is the bit behind the blocks, if the last one ends with the symbol 256 of the fixed codes, behind the symbol of an a: 10010001 0000000.
func lastBit(s string) int {
	blocks := row(s[:len(s)-8])
	return strings.LastIndex(blocks, "1"+"0000000") + 8
}

// P13.2: the length of a text is stored in four bytes, up to the longest one.
func TestBuildLongestText(t *testing.T) {
	s := build(t, api.Head{}, runOf(most))
	if got := s[len(s)-8:]; got != tail(strings.Repeat("a", most)) {
		t.Errorf("% x", got)
	}
	checkNotBuilt(t, api.ErrBig, api.Head{}, runOf(most), fixed("a"))
	checkNotBuilt(t, api.ErrForm, api.Head{Os: -1}, runOf(most), fixed("a"))
}

// Nothing of what was decompressed is returned with an error.
func TestNothingWithALateError(t *testing.T) {
	s := build(t, api.Head{Os: 255}, runOf(1<<20), stored("end"))
	for _, bad := range []string{s + "x", s[:len(s)-1], s[:len(s)-9], change(s, len(s)-1, 1), change(s, len(s)-8, 1)} {
		if x, b := gzip.Parse(bad); b == (blame.Blame{}) || x.Text != "" || len(x.Starts) != 0 || x.From != 0 || x.End != 0 || x.Head != (api.Head{}) {
			t.Errorf("%q with %d bytes", b.Say(), len(x.Text))
		}
	}
}
