package gzhead_test

import (
	"math"
	"strings"
	"testing"

	"collimator/api"
)

// The chapter's example.
func TestExample(t *testing.T) {
	checkValid(t, api.Head{Os: 255}, "\x1f\x8b\x08\x00\x00\x00\x00\x00\x00\xff")
	checkValid(t, api.Head{Os: 255, Flags: 8, Name: "a"}, "\x1f\x8b\x08\x08\x00\x00\x00\x00\x00\xffa\x00")
}

// P12.1: encodings that are written out.
func TestBuild(t *testing.T) {
	cases := []struct {
		h api.Head
		s string
	}{
		{api.Head{}, "\x1f\x8b\x08\x00\x00\x00\x00\x00\x00\x00"},
		{api.Head{Time: 258}, "\x1f\x8b\x08\x00\x02\x01\x00\x00\x00\x00"},
		{api.Head{Time: 0x04030201, Level: 2, Os: 3}, "\x1f\x8b\x08\x00\x01\x02\x03\x04\x02\x03"},
		{api.Head{Flags: 4}, "\x1f\x8b\x08\x04\x00\x00\x00\x00\x00\x00\x00\x00"},
		{api.Head{Flags: 4, Extra: "x\x00y"}, "\x1f\x8b\x08\x04\x00\x00\x00\x00\x00\x00\x03\x00x\x00y"},
		{api.Head{Flags: 8}, "\x1f\x8b\x08\x08\x00\x00\x00\x00\x00\x00\x00"},
		{api.Head{Flags: 8, Name: "ab"}, "\x1f\x8b\x08\x08\x00\x00\x00\x00\x00\x00ab\x00"},
		{api.Head{Flags: 16}, "\x1f\x8b\x08\x10\x00\x00\x00\x00\x00\x00\x00"},
		{api.Head{Flags: 16, Note: "\xff\x01"}, "\x1f\x8b\x08\x10\x00\x00\x00\x00\x00\x00\xff\x01\x00"},
		{api.Head{Flags: 28}, "\x1f\x8b\x08\x1c\x00\x00\x00\x00\x00\x00\x00\x00\x00\x00"},
		{api.Head{Flags: 28, Extra: "e", Name: "n", Note: "c"}, "\x1f\x8b\x08\x1c\x00\x00\x00\x00\x00\x00\x01\x00en\x00c\x00"},
		{api.Head{Text: true}, "\x1f\x8b\x08\x01\x00\x00\x00\x00\x00\x00"},
		// The checksums of these bytes end in 1d 26 and a9 2d, computed apart from this program.
		{api.Head{Sum: true}, "\x1f\x8b\x08\x02\x00\x00\x00\x00\x00\x00" + "\x1d\x26"},
		{api.Head{Text: true, Sum: true}, "\x1f\x8b\x08\x03\x00\x00\x00\x00\x00\x00" + "\xa9\x2d"},
	}
	for _, c := range cases {
		checkValid(t, c.h, c.s)
	}
}

// P12.1: the first and the last value of each number, and those beyond them.
func TestNumbers(t *testing.T) {
	for _, time := range []int{0, 1, 255, 256, 65536, 1<<31 - 1, 1 << 31, 1<<32 - 1} {
		h := api.Head{Time: time}
		checkValid(t, h, modelBuild(h))
	}
	checkValid(t, api.Head{Time: 1<<32 - 1}, "\x1f\x8b\x08\x00\xff\xff\xff\xff\x00\x00")
	for _, time := range []int{-1, -256, math.MinInt, 1 << 32, 1<<32 + 1, 1 << 40, math.MaxInt} {
		checkInvalid(t, api.Head{Time: time})
	}
	for n := range 256 {
		checkValid(t, api.Head{Level: n}, start[:8]+string([]byte{byte(n), 0}))
		checkValid(t, api.Head{Os: n}, start[:8]+string([]byte{0, byte(n)}))
	}
	for _, n := range []int{-1, -256, math.MinInt, 256, 257, 512, 1 << 32, math.MaxInt} {
		checkInvalid(t, api.Head{Level: n})
		checkInvalid(t, api.Head{Os: n})
	}
}

// P12.1: the eight sums of 4, 8 and 16, and no other number.
func TestFlags(t *testing.T) {
	for _, flags := range []int{0, 4, 8, 12, 16, 20, 24, 28} {
		h := api.Head{Flags: flags}
		checkValid(t, h, modelBuild(h))
	}
	for flags := -300; flags <= 300; flags++ {
		if flags < 0 || flags > 28 || flags%4 != 0 {
			checkInvalid(t, api.Head{Flags: flags})
		}
	}
	for _, flags := range []int{math.MinInt, math.MinInt + 4, math.MaxInt, 1 << 32, 1<<32 + 4, 256 + 8} {
		checkInvalid(t, api.Head{Flags: flags})
	}
}

// P12.1: Extra has any bytes, at most 65535.
func TestExtra(t *testing.T) {
	for _, size := range []int{0, 1, 2, 255, 256, 257, 65534, 65535} {
		for _, extra := range []string{strings.Repeat("x", size), strings.Repeat("\x00", size)} {
			length := string([]byte{byte(size % 256), byte(size / 256)})
			checkValid(t, api.Head{Os: 255, Flags: 4, Extra: extra}, flagged(4)+length+extra)
			checkValid(t, api.Head{Os: 255, Flags: 28, Extra: extra, Name: "n", Note: "c"}, flagged(28)+length+extra+"n\x00c\x00")
		}
	}
	for _, size := range []int{65536, 65537, 1 << 17} {
		checkInvalid(t, api.Head{Flags: 4, Extra: strings.Repeat("x", size)})
		checkInvalid(t, api.Head{Flags: 28, Extra: strings.Repeat("\x00", size)})
	}
}

// P12.1: each field is empty unless Flags contains its number; without a byte it may be there or not.
func TestFieldsWithoutFlags(t *testing.T) {
	for flags := 0; flags <= 28; flags += 4 {
		has := modelHas(flags)
		for _, field := range []string{"a", "\xff", "\x00", "ab"} {
			zero := strings.Contains(field, "\x00")
			for _, c := range []struct {
				h  api.Head
				ok bool
			}{
				{api.Head{Flags: flags, Extra: field}, has[4]},
				{api.Head{Flags: flags, Name: field}, has[8] && !zero},
				{api.Head{Flags: flags, Note: field}, has[16] && !zero},
				{api.Head{Flags: flags, Extra: field, Name: "n", Note: "c"}, flags == 28},
			} {
				if c.ok {
					checkValid(t, c.h, modelBuild(c.h))
				} else {
					checkInvalid(t, c.h)
				}
			}
		}
	}
}

// P12.1: no byte 0 in Name and Note, wherever it stands; every other byte.
func TestZeroBytes(t *testing.T) {
	for _, field := range []string{"\x00", "\x00ab", "a\x00b", "ab\x00", "\x00\x00", strings.Repeat("a", 1000) + "\x00"} {
		checkInvalid(t, api.Head{Flags: 8, Name: field})
		checkInvalid(t, api.Head{Flags: 16, Note: field})
		checkInvalid(t, api.Head{Flags: 28, Extra: "x", Name: field, Note: "c"})
		checkInvalid(t, api.Head{Flags: 28, Extra: "x", Name: "n", Note: field})
	}
	var all []byte
	for b := 1; b < 256; b++ {
		all = append(all, byte(b))
	}
	for _, field := range []string{string(all), strings.Repeat(string(all), 300)} {
		checkValid(t, api.Head{Os: 255, Flags: 8, Name: field}, flagged(8)+field+"\x00")
		checkValid(t, api.Head{Os: 255, Flags: 16, Note: field}, flagged(16)+field+"\x00")
	}
}

// P12.1: Text is 1 in the fourth byte; Sum is 2, and two bytes behind the others.
func TestTextAndSum(t *testing.T) {
	for flags := 0; flags <= 28; flags += 4 {
		plain := api.Head{Time: 77, Level: 4, Os: 3, Flags: flags}
		body := modelBuild(plain)[4:]
		with := func(more int) string {
			return start[:3] + string([]byte{byte(flags + more)}) + body
		}
		checkValid(t, plain, with(0))
		text := plain
		text.Text = true
		checkValid(t, text, with(1))
		sum := plain
		sum.Sum = true
		checkValid(t, sum, with(2)+modelSum(with(2)))
		sum.Text = true
		checkValid(t, sum, with(3)+modelSum(with(3)))
	}
}

// P12.1: an error that Text and Sum do not hide, and several at once.
func TestSeveralFaults(t *testing.T) {
	for _, h := range []api.Head{
		{Time: -1, Text: true, Sum: true},
		{Flags: 1, Text: true},
		{Flags: 2, Sum: true},
		{Flags: 3, Text: true, Sum: true},
		{Time: 1 << 32, Level: 256, Os: 256, Flags: 32, Extra: strings.Repeat("x", 65536), Name: "\x00", Note: "\x00"},
		{Time: -1, Level: -1, Os: -1, Flags: -1, Extra: "x", Name: "n", Note: "c"},
		{Time: math.MinInt, Level: math.MaxInt, Os: math.MinInt, Flags: math.MaxInt},
	} {
		checkInvalid(t, h)
	}
}
