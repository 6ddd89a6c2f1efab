package vint_test

import (
	"math"
	"strings"
	"testing"

	"collimator/api"
	"collimator/vint"
)

// numbers are those at which a varint or a fixed number gets one byte more, and their neighbours.
func numbers() []int {
	out := []int{0, 1, 2, 300, 12345678901, math.MaxInt - 1, math.MaxInt}
	for bits := 1; bits < 63; bits++ {
		out = append(out, 1<<bits-1, 1<<bits, 1<<bits+1)
	}
	return out
}

func TestPut(t *testing.T) {
	cases := []struct {
		n int
		s string
	}{
		{0, "\x00"},
		{1, "\x01"},
		{127, "\x7f"},
		{128, "\x80\x01"},
		{300, "\xac\x02"},
		{16383, "\xff\x7f"},
		{16384, "\x80\x80\x01"},
		{1<<56 - 1, strings.Repeat("\xff", 7) + "\x7f"},
		{1 << 56, strings.Repeat("\x80", 8) + "\x01"},
		{math.MaxInt, strings.Repeat("\xff", 8) + "\x7f"},
	}
	for _, c := range cases {
		if s, e := vint.Put(c.n); s != c.s || e != api.OK {
			t.Errorf("Put(%d) = %q, %d; want %q", c.n, s, e, c.s)
		}
		if n, end, e := vint.Get(c.s, 0); n != c.n || end != len(c.s) || e != api.OK {
			t.Errorf("Get(%q, 0) = %d, %d, %d; want %d", c.s, n, end, e, c.n)
		}
	}
}

func TestPutBelowZero(t *testing.T) {
	for _, n := range []int{-1, -128, math.MinInt} {
		if s, e := vint.Put(n); s != "" || e != api.ErrArg {
			t.Errorf("Put(%d) = %q, %d; want ErrArg", n, s, e)
		}
	}
}

// A varint's length is the number of groups of seven bits that the number needs, at least one.
func TestPutLength(t *testing.T) {
	for _, n := range numbers() {
		want := 1
		for m := n >> 7; m > 0; m >>= 7 {
			want++
		}
		if s, _ := vint.Put(n); len(s) != want {
			t.Errorf("Put(%d) has %d bytes; want %d", n, len(s), want)
		}
	}
}

func TestGetErrors(t *testing.T) {
	cases := []struct {
		s  string
		at int
		e  api.Errno
	}{
		{"", -1, api.ErrArg},
		{"a", -1, api.ErrArg},
		{"\x80\x00", -1, api.ErrArg},
		{"a", math.MinInt, api.ErrArg},
		{"", 0, api.ErrShort},
		{"a", 1, api.ErrShort},
		{"a", 2, api.ErrShort},
		{"a", math.MaxInt - 4, api.ErrShort},
		{"a", math.MaxInt, api.ErrShort},
		{"\xac", 0, api.ErrShort},
		{"\x01\xac", 1, api.ErrShort},
		{strings.Repeat("\x80", 8), 0, api.ErrShort},
		{strings.Repeat("\xff", 8), 0, api.ErrShort},
		{"\xac\x00", 0, api.ErrForm},
		{"\x80\x00", 0, api.ErrForm},
		{"\xff\x80\x00", 0, api.ErrForm},
		{strings.Repeat("\xff", 8) + "\x00", 0, api.ErrForm},
		{strings.Repeat("\xff", 9), 0, api.ErrForm},
		{strings.Repeat("\x80", 9), 0, api.ErrForm},
		{strings.Repeat("\xff", 9) + "\x00", 0, api.ErrForm},
		{strings.Repeat("\xff", 9) + "\x01", 0, api.ErrForm},
		{strings.Repeat("\x80", 9) + "\x01", 0, api.ErrForm},
	}
	for _, c := range cases {
		if n, end, e := vint.Get(c.s, c.at); n != 0 || end != 0 || e != c.e {
			t.Errorf("Get(%q, %d) = %d, %d, %d; want error %d", c.s, c.at, n, end, e, c.e)
		}
	}
}

// A first byte of 0 is the number 0, whatever follows.
func TestGetZero(t *testing.T) {
	for _, s := range []string{"\x00", "\x00\x00", "\x00\xff"} {
		if n, end, e := vint.Get(s, 0); n != 0 || end != 1 || e != api.OK {
			t.Errorf("Get(%q, 0) = %d, %d, %d; want 0, 1", s, n, end, e)
		}
	}
}

func TestFixed(t *testing.T) {
	cases := []struct {
		n, width int
		s        string
	}{
		{0, 1, "\x00"},
		{255, 1, "\xff"},
		{0, 2, "\x00\x00"},
		{258, 2, "\x02\x01"},
		{1<<16 - 1, 2, "\xff\xff"},
		{0, 4, "\x00\x00\x00\x00"},
		{0x04030201, 4, "\x01\x02\x03\x04"},
		{1<<32 - 1, 4, "\xff\xff\xff\xff"},
		{0, 8, "\x00\x00\x00\x00\x00\x00\x00\x00"},
		{0x0807060504030201, 8, "\x01\x02\x03\x04\x05\x06\x07\x08"},
		{1 << 32, 8, "\x00\x00\x00\x00\x01\x00\x00\x00"},
		{math.MaxInt, 8, "\xff\xff\xff\xff\xff\xff\xff\x7f"},
	}
	for _, c := range cases {
		if s, e := vint.Fixed(c.n, c.width); s != c.s || e != api.OK {
			t.Errorf("Fixed(%d, %d) = %q, %d; want %q", c.n, c.width, s, e, c.s)
		}
		if n, e := vint.Number(c.s, 0, c.width); n != c.n || e != api.OK {
			t.Errorf("Number(%q, 0, %d) = %d, %d; want %d", c.s, c.width, n, e, c.n)
		}
	}
}

func TestFixedErrors(t *testing.T) {
	cases := []struct{ n, width int }{
		{0, 0}, {0, 3}, {0, 5}, {0, 6}, {0, 7}, {0, 9}, {0, 16}, {0, -1}, {0, -8},
		{0, math.MaxInt}, {0, math.MinInt}, {-1, 3},
		{-1, 1}, {-1, 2}, {-1, 4}, {-1, 8}, {math.MinInt, 8},
		{1 << 8, 1}, {1 << 16, 2}, {1 << 32, 4},
		{math.MaxInt, 1}, {math.MaxInt, 2}, {math.MaxInt, 4},
	}
	for _, c := range cases {
		if s, e := vint.Fixed(c.n, c.width); s != "" || e != api.ErrArg {
			t.Errorf("Fixed(%d, %d) = %q, %d; want ErrArg", c.n, c.width, s, e)
		}
	}
}

func TestNumberErrors(t *testing.T) {
	eight := "\xff\xff\xff\xff\xff\xff\xff\xff"
	cases := []struct {
		s         string
		at, width int
		e         api.Errno
	}{
		{eight, 0, 0, api.ErrArg},
		{eight, 0, 3, api.ErrArg},
		{eight, 0, 7, api.ErrArg},
		{eight, 0, 9, api.ErrArg},
		{eight, 0, -1, api.ErrArg},
		{eight, 0, -8, api.ErrArg},
		{eight, 0, math.MaxInt, api.ErrArg},
		{eight, 0, math.MinInt, api.ErrArg},
		{eight, -1, 1, api.ErrArg},
		{eight, -1, 8, api.ErrArg},
		{eight, math.MinInt, 8, api.ErrArg},
		{"", 0, 3, api.ErrArg},
		{"", -1, 1, api.ErrArg},
		{"", 0, 1, api.ErrShort},
		{"a", 1, 1, api.ErrShort},
		{"a", 2, 1, api.ErrShort},
		{"a", 0, 2, api.ErrShort},
		{"abc", 2, 2, api.ErrShort},
		{"abc", 0, 4, api.ErrShort},
		{eight, 1, 8, api.ErrShort},
		{eight, math.MaxInt, 8, api.ErrShort},
		{eight, math.MaxInt - 7, 8, api.ErrShort},
		{eight, 0, 8, api.ErrRange},
		{"\x00\x00\x00\x00\x00\x00\x00\x80", 0, 8, api.ErrRange},
	}
	for _, c := range cases {
		if n, e := vint.Number(c.s, c.at, c.width); n != 0 || e != c.e {
			t.Errorf("Number(%q, %d, %d) = %d, %d; want error %d", c.s, c.at, c.width, n, e, c.e)
		}
	}
}

func TestText(t *testing.T) {
	cases := []struct{ s, want string }{
		{"", "\x00"},
		{"ab", "\x02ab"},
		{"\x00\xff", "\x02\x00\xff"},
		{strings.Repeat("x", 127), "\x7f" + strings.Repeat("x", 127)},
		{strings.Repeat("x", 128), "\x80\x01" + strings.Repeat("x", 128)},
		{strings.Repeat("x", 300), "\xac\x02" + strings.Repeat("x", 300)},
	}
	for _, c := range cases {
		if s := vint.Text(c.s); s != c.want {
			t.Errorf("Text(%q) = %q", c.s, s)
		}
		if s, end, e := vint.Next(c.want, 0); s != c.s || end != len(c.want) || e != api.OK {
			t.Errorf("Next(%q, 0) = %q, %d, %d", c.want, s, end, e)
		}
	}
}

func TestNextErrors(t *testing.T) {
	cases := []struct {
		s  string
		at int
		e  api.Errno
	}{
		{"\x02ab", -1, api.ErrArg},
		{"\x02ab", math.MinInt, api.ErrArg},
		{"", 0, api.ErrShort},
		{"\x02ab", 3, api.ErrShort},
		{"\x02ab", 4, api.ErrShort},
		{"\x02ab", math.MaxInt, api.ErrShort},
		{"\x82", 0, api.ErrShort},
		{"\x82\x00ab", 0, api.ErrForm},
		{strings.Repeat("\xff", 9) + "ab", 0, api.ErrForm},
		{"\x01", 0, api.ErrShort},
		{"\x02a", 0, api.ErrShort},
		{"\x05ab", 0, api.ErrShort},
		{"x\x02a", 1, api.ErrShort},
		{strings.Repeat("\xff", 8) + "\x7fab", 0, api.ErrShort},
	}
	for _, c := range cases {
		if s, end, e := vint.Next(c.s, c.at); s != "" || end != 0 || e != c.e {
			t.Errorf("Next(%q, %d) = %q, %d, %d; want error %d", c.s, c.at, s, end, e, c.e)
		}
	}
}

// surroundings are bytes that would change the result if more or fewer than the encoded bytes were read.
func surroundings() []string {
	return []string{"", "\x00", "\x01", "\x7f", "\x80", "\xff", "\x00\x00", "\x80\x80", "\xff\xff\xff", strings.Repeat("\xff", 12)}
}

func TestRoundTripAmongOtherBytes(t *testing.T) {
	for _, before := range surroundings() {
		for _, after := range surroundings() {
			for _, n := range numbers() {
				checkVarint(t, before, after, n)
				checkFixed(t, before, after, n)
			}
			for _, s := range []string{"", "a", "\x80", "\x00\xff", strings.Repeat("\xff", 200)} {
				checkText(t, before, after, s)
			}
		}
	}
}

func checkVarint(t *testing.T, before, after string, n int) {
	s, e := vint.Put(n)
	if e != api.OK {
		t.Fatalf("Put(%d): %d", n, e)
	}
	m, end, e := vint.Get(before+s+after, len(before))
	if m != n || end != len(before)+len(s) || e != api.OK {
		t.Errorf("Get of %d between %q and %q = %d, %d, %d", n, before, after, m, end, e)
	}
}

func checkFixed(t *testing.T, before, after string, n int) {
	for _, width := range []int{1, 2, 4, 8} {
		fits := width == 8 || n < 1<<(8*width)
		s, e := vint.Fixed(n, width)
		if fits != (e == api.OK) {
			t.Errorf("Fixed(%d, %d): %d", n, width, e)
		}
		if !fits {
			continue
		}
		m, e := vint.Number(before+s+after, len(before), width)
		if len(s) != width || m != n || e != api.OK {
			t.Errorf("Number of %d between %q and %q with width %d = %d, %d", n, before, after, width, m, e)
		}
	}
}

func checkText(t *testing.T, before, after, s string) {
	code := vint.Text(s)
	got, end, e := vint.Next(before+code+after, len(before))
	if got != s || end != len(before)+len(code) || e != api.OK {
		t.Errorf("Next of %q between %q and %q = %q, %d, %d", s, before, after, got, end, e)
	}
}

// Whatever Get accepts is what Put returns for that number: so no number has two varints.
func TestOneVarintANumber(t *testing.T) {
	check := func(s string) {
		n, end, e := vint.Get(s, 0)
		if e != api.OK {
			return
		}
		if code, e := vint.Put(n); code != s[:end] || e != api.OK {
			t.Errorf("Get accepts %q as %d, whose varint is %q, %d", s[:end], n, code, e)
		}
	}
	for first := range 256 {
		for second := range 256 {
			check(string([]byte{byte(first), byte(second)}))
			for _, third := range []byte{0, 1, 127, 128, 255} {
				check(string([]byte{byte(first), byte(second), third}))
			}
		}
	}
	for size := range 12 {
		for last := range 256 {
			for _, b := range []string{"\x80", "\xff", "\xaa"} {
				check(strings.Repeat(b, size) + string([]byte{byte(last)}))
			}
		}
	}
}

func TestStringsInARow(t *testing.T) {
	list := []string{"", "a", "", "\x00", "\x80\x80", strings.Repeat("y", 127), strings.Repeat("z", 20000), "end", ""}
	var all strings.Builder
	for _, s := range list {
		all.WriteString(vint.Text(s))
	}
	at := 0
	for i, want := range list {
		s, end, e := vint.Next(all.String(), at)
		if s != want || e != api.OK {
			t.Fatalf("string %d at %d: %d bytes, %d", i, at, len(s), e)
		}
		at = end
	}
	if at != all.Len() {
		t.Errorf("the strings end at %d; want %d", at, all.Len())
	}
}

func FuzzGet(f *testing.F) {
	f.Add("\xac\x02", 0)
	f.Add("\xac\x00", 0)
	f.Add("\x05ab", 0)
	f.Add("a", math.MaxInt)
	f.Fuzz(func(t *testing.T, s string, at int) {
		n, end, e := vint.Get(s, at)
		if e == api.OK {
			if code, _ := vint.Put(n); code != s[at:end] {
				t.Errorf("Get(%q, %d) = %d, whose varint is %q", s, at, n, code)
			}
		} else if n != 0 || end != 0 {
			t.Errorf("Get(%q, %d) = %d, %d beside error %d", s, at, n, end, e)
		}
		if text, end, e := vint.Next(s, at); e == api.OK && vint.Text(text) != s[at:end] {
			t.Errorf("Next(%q, %d) = %q, %d", s, at, text, end)
		}
		for width := range 10 {
			if n, e := vint.Number(s, at, width); e == api.OK {
				if code, _ := vint.Fixed(n, width); code != s[at:at+width] {
					t.Errorf("Number(%q, %d, %d) = %d", s, at, width, n)
				}
			}
		}
	})
}
