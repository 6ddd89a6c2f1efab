package gzip_test

import (
	"strings"
	"testing"

	"collimator/api"
	"collimator/gzip"
	"collimator/inflate"
)

// Blocks as they are read bit by bit, each without its Final bit: a, and nothing, with the fixed codes; each literal of 9 bits more moves the end by a bit.
const (
	fixedA    = "10 10010001 0000000"
	fixedNone = "10 0000000"
	literal9  = "110010000"
)

// headed is the contents of an archive with a header that is encoded in so many bytes; bits are counted from behind it.
func headed(h api.Head, size int, text string, end int, starts ...inflate.Start) gzip.Info {
	x := gzip.Info{Head: h, From: 8 * size, End: 8*size + end, Text: text}
	for _, s := range starts {
		x.Starts = append(x.Starts, inflate.Start{Bit: 8*size + s.Bit, Out: s.Out})
	}
	return x
}

// checkBlocks expects blocks to be read behind each header.
func checkBlocks(t *testing.T, blocks, text string, end int, starts ...inflate.Start) {
	t.Helper()
	for _, h := range heads() {
		s := head(t, h)
		checkParse(t, s+blocks+tail(text), headed(h, len(s), text, end, starts...))
	}
}

// P13.1: each kind of block, with a text and without one.
func TestKinds(t *testing.T) {
	checkBlocks(t, "\x01\x02\x00\xfd\xffab", "ab", 56, inflate.Start{})
	checkBlocks(t, "\x01\x00\x00\xff\xff", "", 40, inflate.Start{})
	checkBlocks(t, bits("1"+fixedA), "a", 18, inflate.Start{})
	checkBlocks(t, bits("1"+fixedNone), "", 10, inflate.Start{})
	checkBlocks(t, bits("1 10 10010001 0000001 00000 0000000"), "aaaa", 30, inflate.Start{})
	// 97 zeros, 1, 138 and 20 zeros, 1, and 1 for the one distance: 0 is a, 1 ends the block.
	lengths := "00000 00000 0111 000 000 100 010" + strings.Repeat(" 000", 13) + " 010"
	codes := "0 0110101" + "11" + "0 1111111" + "0 1001000" + "11 11"
	checkBlocks(t, bits("1 01"+lengths+codes+"0 0 1"), "aa", 3+14+54+8+2+8+8+2+2+3, inflate.Start{})
	checkBlocks(t, bits("1 01"+lengths+codes+"1"), "", 3+14+54+8+2+8+8+2+2+1, inflate.Start{})
}

// P13.1: several blocks; the starts tell the bytes before each of them.
func TestSeveralBlocks(t *testing.T) {
	checkBlocks(t, bits("0"+fixedA+"0"+fixedNone+"1"+fixedA), "aa", 46, inflate.Start{}, inflate.Start{Bit: 18, Out: 1}, inflate.Start{Bit: 28, Out: 1})
	checkBlocks(t, "\x00\x02\x00\xfd\xffab"+"\x00\x00\x00\xff\xff"+bits("1"+fixedA), "aba", 114, inflate.Start{}, inflate.Start{Bit: 56, Out: 2}, inflate.Start{Bit: 96, Out: 2})
	// A Stored block that begins within a byte: its size begins with the next one.
	checkBlocks(t, bits("0"+fixedA+"1 00")+"\x03\x00\xfc\xffxyz", "axyz", 80, inflate.Start{}, inflate.Start{Bit: 18, Out: 1})
	// The copy reaches back into the block before.
	checkBlocks(t, "\x00\x02\x00\xfd\xffab"+bits("1 10 0000001 00001 0000000"), "ababa", 78, inflate.Start{}, inflate.Start{Bit: 56, Out: 2})
}

// P13.1: the blocks end at each bit of a byte; the numbers begin with the next byte, and the bits before them do not matter.
func TestEnds(t *testing.T) {
	for n := range 9 {
		blocks := "1 10" + strings.Repeat(literal9, n) + "0000000"
		text := strings.Repeat("\x90", n)
		checkBlocks(t, bits(blocks), text, 10+9*n, inflate.Start{})
		filled := blocks + strings.Repeat("1", 8-(10+9*n)%8)
		if (10+9*n)%8 == 0 {
			filled = blocks
		}
		checkBlocks(t, bits(filled), text, 10+9*n, inflate.Start{})
		if n > 0 {
			// No byte is between.
			s := start + bits(blocks)
			checkError(t, s+"\x00"+tail(text), at("sum", len(s)))
		}
	}
}

// P13.1: the headers are those of gzhead, wherever they end.
func TestHeaders(t *testing.T) {
	for _, size := range []int{0, 1, 100, 65535} {
		h := api.Head{Flags: 28, Sum: true, Extra: strings.Repeat("\x00", size), Name: strings.Repeat("n", size), Note: strings.Repeat("\x1f", size)}
		s := head(t, h)
		checkParse(t, s+bits("1"+fixedA)+tail("a"), headed(h, len(s), "a", 18, inflate.Start{}))
	}
}

// P13.1: the errors of the header are at 0, whatever follows.
func TestErrorsOfTheHeader(t *testing.T) {
	rest := bits("1"+fixedA) + tail("a")
	full := head(t, heads()[len(heads())-1])
	for n := range full {
		checkError(t, full[:n], "short at 0")
	}
	for i := range 3 {
		for _, behind := range []string{rest, "", "\x07", rest + rest} {
			checkError(t, change(full, i, 1)+behind, "magic at 0")
		}
	}
	checkError(t, strings.Repeat("\x00", 50), "magic at 0")
	for flags := 32; flags < 256; flags++ {
		checkError(t, start[:3]+string([]byte{byte(flags)})+start[4:]+rest, "flags at 0")
	}
	for i := 4; i < len(full); i++ {
		// Another length of Extra, or another end of Name and Note, might be an error ahead of the sum.
		if i < 10 || full[i] != 0 && i != 10 {
			changed := change(full, i, 0x10)
			checkError(t, changed+rest, "sum at 0")
			checkError(t, changed+"\x07", "sum at 0")
		}
	}
	// What is missing may be a field.
	for _, flags := range []string{"\x04", "\x08", "\x10", "\x02"} {
		checkError(t, start[:3]+flags+start[4:], "short at 0")
	}
	checkError(t, start[:3]+"\x04"+start[4:]+"\xff\xff"+rest, "short at 0")
	checkError(t, start[:3]+"\x08"+start[4:]+"name", "short at 0")
}

// faults are what can't be decompressed, by the name of the error, as it is read bit by bit.
func faults() map[string]string {
	far := "0000001 11101 1111111111111"
	inner := "1 01 00000 00000 0000 "
	return map[string]string{
		"short":    inner + "000",
		"block":    "1 11 00000",
		"size":     "1 00 00000 10100000 00000000 10100000 00000000",
		"big":      "1 01 01111 00000 0000",
		"empty":    inner + "000 000 000 000",
		"over":     inner + "100 100 100 100",
		"under":    inner + "100 000 000 000",
		"form":     inner + "100 000 000 100 1 00",
		"none":     inner + "000 000 100 100 1 1111111 1 1011011",
		"code":     "1 10 11000110 0000000",
		"distance": "1 10 " + far + "0000000",
	}
}

// P13.1: each error of decompression, behind texts of several lengths, after each header. What follows does not matter, but for an error that bytes are missing.
func TestErrorsOfDecompression(t *testing.T) {
	before := []struct {
		blocks string
		bytes  int
	}{
		{"", 0},
		{"0" + fixedNone, 0},
		{row("\x00\x00\x00\xff\xff"), 0},
		{"0" + fixedA, 1},
		{row("\x00\x03\x00\xfc\xffabc"), 3},
		{"0" + fixedA + "0 10 10010001 0000001 00000 0000000", 5},
	}
	for name, fault := range faults() {
		for _, b := range before {
			for _, h := range heads() {
				s := head(t, h)
				from := len(s)
				s += bits(strings.ReplaceAll(b.blocks+alignedFault(b.blocks, fault), " ", ""))
				checkError(t, s, formAt(from, name, b.bytes))
				if name != "short" {
					checkError(t, s+"\x00\x00\x00", formAt(from, name, b.bytes))
					checkError(t, s+tail("a"), formAt(from, name, b.bytes))
					checkError(t, s+tail("")+"more", formAt(from, name, b.bytes))
				}
			}
		}
	}
}

// alignedFault is a fault behind blocks: the size of a Stored block begins with a byte.
func alignedFault(blocks, fault string) string {
	const head, size = 3, 32
	fault = strings.ReplaceAll(fault, " ", "")
	if !strings.HasPrefix(fault, "100") {
		return fault
	}
	bits := len(strings.ReplaceAll(blocks, " ", "")) + head
	return fault[:head] + strings.Repeat("0", (8-bits%8)%8) + fault[len(fault)-size:]
}

// P13.1: the bytes before an error within a block, also those of a copy or of a Stored block that is cut.
func TestErrorsWithinABlock(t *testing.T) {
	for _, c := range []struct {
		blocks, name string
		bytes        int
	}{
		{bits("1 10 10010001 10010001 11000110 0"), "code", 2},
		{bits("1 10 10010001 0000001 00000 0000010 00001 11000111"), "code", 8},
		{bits("1 10 10010001 0000001 00001 0"), "distance", 1},
		{bits("1 10 10010001 0000001 11110 0"), "code", 1},
		{"\x01\x05\x00\xfa\xffabcd", "short", 4},
		{"\x01\x05\x00\xfa\xff", "short", 0},
		{"\x01\x05\x00\xfa", "short", 0},
		{"\x00\x05\x00\xfa\xffabcde", "short", 5},
		{"", "short", 0},
	} {
		checkError(t, start+c.blocks, formAt(10, c.name, c.bytes))
		h := heads()[len(heads())-1]
		s := head(t, h)
		checkError(t, s+c.blocks, formAt(len(s), c.name, c.bytes))
	}
}

// P13.1: of the eight bytes behind the blocks, 0 to 7 are ErrShort at the length, whatever they are.
func TestFewBytesBehindTheBlocks(t *testing.T) {
	for _, c := range []struct{ blocks, text string }{
		{bits("1" + fixedA), "a"},
		{"\x01\x02\x00\xfd\xffab", "ab"},
		{bits("1" + fixedNone), ""},
		{bits("1 10" + strings.Repeat(literal9, 6) + "0000000"), strings.Repeat("\x90", 6)},
	} {
		for n := range 8 {
			for _, h := range heads() {
				s := head(t, h) + c.blocks
				checkError(t, s+tail(c.text)[:n], at("short", len(s)+n))
				// Bytes that would be another sum or length.
				checkError(t, s+"\xff\xee\xdd\xcc\xbb\xaa\x99\x88"[:n], at("short", len(s)+n))
			}
		}
	}
}

// change returns s with the bits of a mask turned in one byte.
func change(s string, at int, mask byte) string {
	return s[:at] + string([]byte{s[at] ^ mask}) + s[at+1:]
}

// P13.1: each bit of the checksum and of the length, alone and one of each. The sum comes first.
func TestSumAndSize(t *testing.T) {
	for _, c := range []struct{ blocks, text string }{
		{bits("1" + fixedA), "a"},
		{"\x01\x02\x00\xfd\xffab", "ab"},
		{bits("1" + fixedNone), ""},
	} {
		behind := len(start) + len(c.blocks)
		s := start + c.blocks + tail(c.text)
		for i := range 32 {
			wrongSum := change(s, behind+i/8, 1<<(i%8))
			checkError(t, wrongSum, at("sum", behind))
			checkError(t, change(s, behind+4+i/8, 1<<(i%8)), at("size", behind))
			for j := range 32 {
				checkError(t, change(wrongSum, behind+4+j/8, 1<<(j%8)), at("sum", behind))
			}
		}
		checkError(t, start+c.blocks+"\xff\xee\xdd\xcc\xbb\xaa\x99\x88", at("sum", behind))
	}
	// A length with the bytes turned round, and both numbers in the wrong order.
	s := start + "\x01\x02\x00\xfd\xffab"
	checkError(t, s+tail("ab")[:4]+"\x00\x00\x00\x02", at("size", len(s)))
	checkError(t, s+tail("ab")[4:]+tail("ab")[:4], at("sum", len(s)))
	checkError(t, s+tail("ba"), at("sum", len(s)))
}

// P13.1: bytes behind the end, one or many, whatever they are.
func TestMore(t *testing.T) {
	for _, h := range heads() {
		s := head(t, h) + bits("1"+fixedA) + tail("a")
		for _, more := range []string{"\x00", "\xff", "\x1f", "more", s, tail("a"), strings.Repeat("\x00", 1000)} {
			checkError(t, s+more, at("more", len(s)))
		}
	}
}

// P13.1: of two errors, the one that comes first in the list.
func TestFirstError(t *testing.T) {
	blocks := bits("1" + fixedA)
	s := start + blocks
	good := s + tail("a")
	wrongSum, wrongSize := change(good, len(s), 1), change(good, len(s)+4, 1)
	// The header's error, and errors of everything behind it.
	checkError(t, "x"+start[1:]+"\x07", "magic at 0")
	checkError(t, "x"+good[1:]+"more", "magic at 0")
	checkError(t, "x"+wrongSum[1:], "magic at 0")
	checkError(t, change(good, 3, 0x20)[:len(s)], "flags at 0")
	sum := change(head(t, api.Head{Sum: true}), 10, 1)
	checkError(t, sum+"\x07", "sum at 0")
	checkError(t, sum+blocks, "sum at 0")
	checkError(t, sum+blocks+tail("b"), "sum at 0")
	// The error of decompression, and no numbers, wrong ones, or more behind them.
	checkError(t, start+"\x07", "form at 10: block at 0")
	checkError(t, start+"\x07"+tail("b"), "form at 10: block at 0")
	checkError(t, start+"\x07"+tail("")+"more", "form at 10: block at 0")
	// Too few bytes that differ from the numbers.
	checkError(t, wrongSum[:len(s)+7], at("short", len(s)+7))
	checkError(t, wrongSize[:len(s)+7], at("short", len(s)+7))
	// Wrong numbers and bytes behind them.
	checkError(t, change(wrongSum, len(s)+4, 1), at("sum", len(s)))
	checkError(t, wrongSum+"more", at("sum", len(s)))
	checkError(t, wrongSize+"more", at("size", len(s)))
	checkError(t, wrongSize+"\x00", at("size", len(s)))
}

// The blame of an error of decompression has two links, of which the outer one has the family of the inner one.
func TestBlame(t *testing.T) {
	_, b := gzip.Parse(start + "\x00\x03\x00\xfc\xffabc\x07")
	code, position := b.Root()
	if b.Code() != api.ErrForm || b.At() != 10 || b.Deep() != 2 || code != api.ErrBlock || position != 3 || b.Family() != 2 {
		t.Errorf("%d at %d, %d links, %d at %d, family %d", b.Code(), b.At(), b.Deep(), code, position, b.Family())
	}
	for _, s := range []string{"", start + bits("1"+fixedA), start + bits("1"+fixedA) + tail("b"), start + bits("1"+fixedA) + tail("a") + "more"} {
		if _, b := gzip.Parse(s); b.Deep() != 1 {
			t.Errorf("Parse(%s) has %d links", brief(s), b.Deep())
		}
	}
}

// R4: the starts that are returned belong to the caller, with the room behind them.
func TestStartsAreNew(t *testing.T) {
	s := build(t, api.Head{}, stored("a"), fixed("b"), dynamic("c"))
	want, say := modelParse(s)
	if say != "" {
		t.Fatal(say)
	}
	x, _ := gzip.Parse(s)
	starts := x.Starts[:cap(x.Starts)]
	for i := range starts {
		starts[i] = inflate.Start{Bit: -1, Out: -1}
	}
	checkParse(t, s, want)
}
