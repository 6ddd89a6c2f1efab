package gzhead_test

import (
	"math"
	"strings"
	"testing"

	"collimator/api"
	"collimator/gzhead"
)

// full is a header with all its fields.
func full() api.Head {
	return api.Head{Time: 0x04030201, Level: 2, Os: 3, Text: true, Sum: true, Flags: 28, Extra: "x\x00y", Name: "name", Note: "a note"}
}

// P12.2: an offset below 0, before all else.
func TestOffsetBelowZero(t *testing.T) {
	for _, s := range []string{"", "a", start, modelBuild(full()), "no header at all"} {
		for _, at := range []int{-1, -2, -10, math.MinInt, math.MinInt + 10, -1 << 32} {
			checkError(t, s, at, api.ErrArg)
		}
	}
}

// P12.2: an offset at the end, behind it, or so near to it that fewer than 10 bytes follow, whatever they are.
func TestFewBytes(t *testing.T) {
	for _, s := range []string{start, modelBuild(full()), "no header", strings.Repeat("\xff", 50), "\x1f\x8b\x07\xff\xff\xff\xff\xff\xff"} {
		for at := max(0, len(s)-9); at <= len(s)+20; at++ {
			checkError(t, s, at, api.ErrShort)
		}
		for _, at := range []int{1 << 20, 1 << 31, 1 << 32, math.MaxInt - 10, math.MaxInt - 9, math.MaxInt - 1, math.MaxInt} {
			checkError(t, s, at, api.ErrShort)
		}
	}
	for n := range 10 {
		checkError(t, start[:n], 0, api.ErrShort)
		checkError(t, "ab"+start[:n], 2, api.ErrShort)
		checkError(t, "no header"[:min(n, 9)], 0, api.ErrShort)
		checkError(t, flagged(0xff)[:n], 0, api.ErrShort)
	}
	checkError(t, "", 0, api.ErrShort)
}

// P12.2: a header that ends with the text, and one with bytes behind it, at the offset 0 and further on.
func TestPlaces(t *testing.T) {
	for _, before := range []string{"", "a", "\x1f", "\x1f\x8b\x08", "\x00\x00\x00", start, strings.Repeat("b", 5000)} {
		for _, after := range []string{"", "c", "\x00", "\x00\x00\x00", "\xff", start, strings.Repeat("d", 5000)} {
			for _, h := range []api.Head{{}, {Os: 255}, {Flags: 4}, {Flags: 8}, {Flags: 16, Note: "c"}, {Sum: true}, full()} {
				s := modelBuild(h)
				checkParse(t, before+s+after, len(before), h, len(before)+len(s), api.OK)
			}
		}
	}
}

// P12.2: each of the first three bytes changed in every way.
func TestMagic(t *testing.T) {
	for _, s := range []string{start, modelBuild(full())} {
		for at := range 3 {
			for b := range 256 {
				changed := s[:at] + string([]byte{byte(b)}) + s[at+1:]
				if changed != s {
					checkError(t, changed, 0, api.ErrMagic)
					checkError(t, s+changed, len(s), api.ErrMagic)
				}
			}
		}
	}
	checkError(t, strings.Repeat("\x00", 10), 0, api.ErrMagic)
	checkError(t, "a"+start, 0, api.ErrMagic)
	checkError(t, "\x8b\x1f\x08"+start[3:], 0, api.ErrMagic)
}

// P12.2: every fourth byte. Of the bytes 0 that follow, one ends a Name or a Note, and two are the length of an Extra.
func TestFourthByte(t *testing.T) {
	for flags := range 256 {
		s := flagged(byte(flags)) + strings.Repeat("\x00", 20)
		switch {
		case flags >= 32:
			checkError(t, s, 0, api.ErrFlags)
			checkError(t, "a"+s, 1, api.ErrFlags)
		case modelHas(flags)[2]:
			checkError(t, s, 0, api.ErrSum)
		default:
			has := modelHas(flags)
			h := api.Head{Os: 255, Flags: flags / 4 * 4, Text: has[1]}
			checkParse(t, s, 0, h, len(modelBuild(h)), api.OK)
		}
	}
	s := flagged(31) + "\x00\x00\x00\x00"
	want := api.Head{Os: 255, Flags: 28, Text: true, Sum: true}
	checkParse(t, s+modelSum(s), 0, want, 16, api.OK)
	for _, flags := range []byte{32, 64, 128, 224, 255, 32 + 31} {
		checkError(t, flagged(flags), 0, api.ErrFlags)
	}
}

// P12.2: headers with all their fields, or some, cut at every place: whatever is missing, it is the same error.
func TestCuts(t *testing.T) {
	for flags := 0; flags <= 28; flags += 4 {
		h := full()
		h.Flags = flags
		has := modelHas(flags)
		if !has[4] {
			h.Extra = ""
		}
		if !has[8] {
			h.Name = ""
		}
		if !has[16] {
			h.Note = ""
		}
		for _, sum := range []bool{false, true} {
			h.Sum = sum
			s := modelBuild(h)
			for n := range s {
				checkError(t, s[:n], 0, api.ErrShort)
				checkError(t, "\x00"+s[:n], 1, api.ErrShort)
			}
			checkParse(t, s, 0, h, len(s), api.OK)
		}
	}
}

// P12.2: cuts of a header whose magic or flags are wrong, which is told as soon as ten bytes are there.
func TestCutsOfFaultyHeaders(t *testing.T) {
	s := modelBuild(full())
	for _, c := range []struct {
		s string
		e api.Errno
	}{
		{"\x1e" + s[1:], api.ErrMagic},
		{s[:1] + "\x8a" + s[2:], api.ErrMagic},
		{s[:2] + "\x09" + s[3:], api.ErrMagic},
		{s[:3] + "\x20" + s[4:], api.ErrFlags},
		{s[:3] + "\x3f" + s[4:], api.ErrFlags},
	} {
		for n := range len(c.s) + 1 {
			if n < 10 {
				checkError(t, c.s[:n], 0, api.ErrShort)
			} else {
				checkError(t, c.s[:n], 0, c.e)
			}
		}
	}
}

// P12.2: an Extra whose length says more bytes than are left.
func TestExtraTooLong(t *testing.T) {
	for _, c := range []struct{ length, left int }{
		{1, 0}, {2, 1}, {3, 2}, {255, 254}, {256, 0}, {256, 255}, {257, 1}, {65535, 0}, {65535, 65534}, {0xff00, 255},
	} {
		length := string([]byte{byte(c.length), byte(c.length >> 8)})
		for _, b := range []string{"x", "\x00"} {
			s := flagged(4) + length + strings.Repeat(b, c.left)
			checkError(t, s, 0, api.ErrShort)
			checkError(t, "ab"+s, 2, api.ErrShort)
			checkError(t, flagged(31)+s[10:], 0, api.ErrShort)
			enough := s + strings.Repeat(b, c.length-c.left)
			checkParse(t, enough, 0, api.Head{Os: 255, Flags: 4, Extra: enough[12:]}, len(enough), api.OK)
		}
	}
	checkError(t, flagged(4), 0, api.ErrShort)
	checkError(t, flagged(4)+"\x00", 0, api.ErrShort)
}

// P12.2: a Name and a Note without their byte 0.
func TestWithoutZeroByte(t *testing.T) {
	for _, field := range []string{"", "a", "ab", "\xff\x01", strings.Repeat("a", 70000)} {
		checkError(t, flagged(8)+field, 0, api.ErrShort)
		checkError(t, flagged(16)+field, 0, api.ErrShort)
		checkError(t, flagged(24)+field, 0, api.ErrShort)
		checkError(t, flagged(24)+"n\x00"+field, 0, api.ErrShort)
		checkError(t, flagged(28)+"\x00\x00"+field, 0, api.ErrShort)
		checkError(t, flagged(28)+"\x01\x00\x00n\x00"+field, 0, api.ErrShort)
		// A byte 0 ahead of them is not theirs.
		checkError(t, "\x00"+flagged(8)+field, 1, api.ErrShort)
		checkError(t, flagged(12)+"\x02\x00\x00\x00"+field, 0, api.ErrShort)
	}
}

// P12.2: a checksum with either of its bytes changed in every way, and one whose bytes are the other way round.
func TestSum(t *testing.T) {
	for _, h := range []api.Head{{Sum: true}, {Sum: true, Os: 255, Flags: 8, Name: "f"}, full()} {
		s := modelBuild(h)
		for _, at := range []int{len(s) - 2, len(s) - 1} {
			for change := 1; change < 256; change++ {
				b := []byte(s)
				b[at] ^= byte(change)
				checkError(t, string(b), 0, api.ErrSum)
				checkError(t, "a"+string(b)+s, 1, api.ErrSum)
			}
		}
		body, sum := s[:len(s)-2], s[len(s)-2:]
		checkError(t, body+sum[1:]+sum[:1], 0, api.ErrSum)
		checkError(t, body+"\x00\x00", 0, api.ErrSum)
		// It is a checksum of the header alone.
		before := "before"
		checkError(t, before+body+modelSum(before+body), len(before), api.ErrSum)
		checkParse(t, before+s, len(before), h, len(before)+len(s), api.OK)
	}
}

// P12.2: a byte of the header changed, and the checksum not, is an error, unless it changes what is read before the checksum is.
func TestChangedBytes(t *testing.T) {
	s := modelBuild(full())
	for at := range s {
		for bit := range 8 {
			b := []byte(s)
			b[at] ^= 1 << bit
			checkModel(t, string(b), 0)
			if at >= 4 && at < 10 {
				checkError(t, string(b), 0, api.ErrSum)
			}
		}
	}
}

// P12.2: of two errors the first one in the promise's order.
func TestOrder(t *testing.T) {
	for _, c := range []struct {
		s  string
		at int
		e  api.Errno
	}{
		{"", -1, api.ErrArg},
		{strings.Repeat("a", 10), -1, api.ErrArg},
		{flagged(255), -1, api.ErrArg},
		{flagged(8), -1, api.ErrArg},
		{flagged(2) + "\x00\x00", -1, api.ErrArg},
		{"no header", 0, api.ErrShort},
		{flagged(255)[:9], 0, api.ErrShort},
		{"\x1f\x8b\x07\xff\x00\x00\x00\x00\x00", 0, api.ErrShort},
		{"\x1f\x8b\x07" + flagged(255)[3:], 0, api.ErrMagic},
		{"\x1f\x8c\x08" + flagged(4)[3:], 0, api.ErrMagic},
		{"\x1e\x8b\x08" + flagged(8)[3:] + "a", 0, api.ErrMagic},
		{"\x1e\x8b\x08" + flagged(2)[3:] + "\x00\x00", 0, api.ErrMagic},
		{flagged(32 + 4), 0, api.ErrFlags},
		{flagged(32 + 8), 0, api.ErrFlags},
		{flagged(64 + 16), 0, api.ErrFlags},
		{flagged(128 + 2), 0, api.ErrFlags},
		{flagged(128+2) + "\x00\x00", 0, api.ErrFlags},
		{flagged(255) + strings.Repeat("\x00", 20), 0, api.ErrFlags},
		{flagged(6) + "\x03\x00\x00\x00", 0, api.ErrShort},
		{flagged(10) + "no end and no sum", 0, api.ErrShort},
		{flagged(18) + "no end and no sum", 0, api.ErrShort},
		{flagged(2), 0, api.ErrShort},
		{flagged(2) + "\x00", 0, api.ErrShort},
		{flagged(2) + "\x00\x00", 0, api.ErrSum},
		{flagged(31) + "\x00\x00\x00\x00\x00\x00", 0, api.ErrSum},
	} {
		checkError(t, c.s, c.at, c.e)
	}
}

// The fields are read in their order: what stands for a byte 0 or a length in one of them does not in another.
func TestFieldsThatLookLikeOthers(t *testing.T) {
	for _, h := range []api.Head{
		{Flags: 28, Extra: "a\x00b\x00c", Name: "n", Note: "c"},
		{Flags: 28, Extra: "\x00\x00", Name: "", Note: ""},
		{Flags: 24, Name: "", Note: "c"},
		{Flags: 24, Name: "n", Note: ""},
		{Flags: 20, Extra: "\x01\x00", Note: "\x01"},
		{Flags: 12, Extra: start, Name: "\x1f\x8b\x08"},
		{Flags: 4, Extra: strings.Repeat("\x00", 65535)},
		{Flags: 4, Extra: strings.Repeat("\x1f\x8b\x08\x1c", 64)},
	} {
		for _, sum := range []bool{false, true} {
			h.Sum = sum
			checkValid(t, h, modelBuild(h))
		}
	}
}

// Every text of few bytes behind the start with any flags, with and without the right checksum: as the model reads it.
func TestShortTails(t *testing.T) {
	tails := []string{""}
	for from := 0; len(tails[from]) < 5; from++ {
		for _, b := range []string{"\x00", "\x01", "\x02", "a"} {
			tails = append(tails, tails[from]+b)
		}
	}
	for flags := range byte(36) {
		for _, tail := range tails {
			s := flagged(flags) + tail
			checkModel(t, s, 0)
			if flags&2 != 0 {
				checkModel(t, s+modelSum(s)+"\x00", 0)
			}
		}
	}
}

// R5: a call with an error, or another result, changes no later one.
func TestCallsDoNotDependOnEachOther(t *testing.T) {
	s := modelBuild(full())
	first, end, e := gzhead.Parse(s, 0)
	checkError(t, s, 1, api.ErrMagic)
	checkInvalid(t, api.Head{Time: -1})
	second, sameEnd, sameError := gzhead.Parse(s, 0)
	if first != second || end != sameEnd || e != sameError {
		t.Errorf("two results of the same call: %s and %s", briefHead(first), briefHead(second))
	}
	built, _ := gzhead.Build(first)
	if again, _ := gzhead.Build(first); again != built || built != s {
		t.Errorf("two results of the same call: %s and %s", brief(built), brief(again))
	}
}
