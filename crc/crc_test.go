package crc_test

import (
	"hash/crc32"
	"math/rand"
	"strings"
	"testing"

	"collimator/crc"
)

// states are the ones with no bits, with all bits and with single bits, and others.
func states() []uint32 {
	out := []uint32{0, 0xffffffff, 0xedb88320, 0x12345678, 0x000000ff, 0xffffff00, 0xcbf43926}
	for bit := range 32 {
		out = append(out, 1<<bit)
	}
	return out
}

// randomText is always the same for the same seed and length.
func randomText(seed int64, size int) string {
	out := make([]byte, size)
	source := rand.New(rand.NewSource(seed))
	for i := range out {
		out[i] = byte(source.Intn(256))
	}
	return string(out)
}

func texts() []string {
	all := make([]byte, 256)
	for i := range all {
		all[i] = byte(i)
	}
	return []string{
		"", "\x00", "\xff", "a", "abc", "123456789",
		"\x00\x00\x00\x00", "\xff\xff\xff\xff",
		strings.Repeat("\x00", 300), strings.Repeat("\xff", 300), strings.Repeat("collimator", 60),
		string(all), string(all[:255]), string(all) + "x",
		randomText(1, 5), randomText(2, 64), randomText(3, 1000),
	}
}

// longForm divides the bits of s, from the lowest of the first byte on, without a table.
func longForm(state uint32, s string) uint32 {
	for i := range len(s) {
		for bit := range 8 {
			out := state&1 ^ uint32(s[i]>>bit&1)
			state = state>>1 ^ out*0xedb88320
		}
	}
	return state
}

func TestTable(t *testing.T) {
	table := crc.Table()
	for b, want := range crc32.IEEETable {
		if table[b] != want {
			t.Errorf("Table()[%d] = %08x; want %08x", b, table[b], want)
		}
		if long := longForm(0, string([]byte{byte(b)})); table[b] != long {
			t.Errorf("Table()[%d] = %08x; want %08x by division", b, table[b], long)
		}
	}
	known := []struct {
		b    int
		want uint32
	}{{0, 0}, {1, 0x77073096}, {2, 0xee0e612c}, {128, 0xedb88320}, {254, 0x5a05df1b}, {255, 0x2d02ef8d}}
	for _, k := range known {
		if table[k.b] != k.want {
			t.Errorf("Table()[%d] = %08x; want %08x", k.b, table[k.b], k.want)
		}
	}
}

// What a caller does to one table must be seen neither in the next one nor in a checksum.
func TestTableIsNew(t *testing.T) {
	table := crc.Table()
	first := table
	clear(table[:])
	if crc.Table() != first {
		t.Error("Table changed with an earlier result")
	}
	if c := crc.Of("123456789"); c != 0xcbf43926 {
		t.Errorf("Of changed with a result of Table: %08x", c)
	}
}

func TestByte(t *testing.T) {
	for _, c := range states() {
		for b := range 256 {
			s := string([]byte{byte(b)})
			got := crc.Byte(c, byte(b))
			if want := longForm(c, s); got != want {
				t.Errorf("Byte(%08x, %02x) = %08x; want %08x", c, b, got, want)
			}
			if want := ^crc32.Update(^c, crc32.IEEETable, []byte(s)); got != want {
				t.Errorf("Byte(%08x, %02x) = %08x; want %08x", c, b, got, want)
			}
		}
	}
}

// A byte equal to the lowest one of the state leaves the entry 0, so that the state is only shifted.
func TestByteShifts(t *testing.T) {
	for _, c := range states() {
		if got := crc.Byte(c, byte(c)); got != c>>8 {
			t.Errorf("Byte(%08x, %02x) = %08x; want %08x", c, byte(c), got, c>>8)
		}
	}
}

func TestOfKnown(t *testing.T) {
	cases := []struct {
		s    string
		want uint32
	}{
		{"", 0},
		{"a", 0xe8b7be43},
		{"abc", 0x352441c2},
		{"123456789", 0xcbf43926},
		{"\x00", 0xd202ef8d},
		{"\xff", 0xff000000},
		{"\x00\x00\x00\x00", 0x2144df1c},
		{"\xff\xff\xff\xff", 0xffffffff},
		{"The quick brown fox jumps over the lazy dog", 0x414fa339},
	}
	for _, c := range cases {
		if got := crc.Of(c.s); got != c.want {
			t.Errorf("Of(%q) = %08x; want %08x", c.s, got, c.want)
		}
	}
}

func TestOf(t *testing.T) {
	for b := range 256 {
		checkOf(t, string([]byte{byte(b)}))
	}
	for size := range 600 {
		checkOf(t, randomText(int64(size), size))
	}
	for _, s := range texts() {
		checkOf(t, s)
	}
	checkOf(t, randomText(4, 1<<20))
}

func checkOf(t *testing.T, s string) {
	t.Helper()
	got := crc.Of(s)
	if want := crc32.ChecksumIEEE([]byte(s)); got != want {
		t.Errorf("Of of %d bytes = %08x; want %08x", len(s), got, want)
	}
	if on := crc.On(0, s); got != on {
		t.Errorf("Of of %d bytes = %08x; On from 0 = %08x", len(s), got, on)
	}
}

func TestOn(t *testing.T) {
	for _, c := range states() {
		for _, s := range texts() {
			got := crc.On(c, s)
			if want := crc32.Update(c, crc32.IEEETable, []byte(s)); got != want {
				t.Errorf("On(%08x) of %d bytes = %08x; want %08x", c, len(s), got, want)
			}
			state := ^c
			for i := range len(s) {
				state = crc.Byte(state, s[i])
			}
			if got != ^state {
				t.Errorf("On(%08x) of %d bytes = %08x; byte by byte %08x", c, len(s), got, ^state)
			}
		}
	}
}

func TestOnNothing(t *testing.T) {
	for _, c := range states() {
		if got := crc.On(c, ""); got != c {
			t.Errorf("On(%08x, \"\") = %08x", c, got)
		}
	}
}

func TestCutAnywhere(t *testing.T) {
	for _, s := range texts() {
		whole := crc.Of(s)
		for at := range len(s) + 1 {
			if got := crc.On(crc.Of(s[:at]), s[at:]); got != whole {
				t.Errorf("%d bytes cut at %d: %08x; want %08x", len(s), at, got, whole)
			}
		}
	}
}

func TestCutTwice(t *testing.T) {
	s := randomText(5, 40)
	whole := crc.Of(s)
	for from := range len(s) + 1 {
		for to := from; to <= len(s); to++ {
			got := crc.On(crc.On(crc.Of(s[:from]), s[from:to]), s[to:])
			if got != whole {
				t.Errorf("cut at %d and %d: %08x; want %08x", from, to, got, whole)
			}
		}
	}
}

// patterns are bits to invert within 32 consecutive ones: each one alone, each run, each pair with the first one, the polynomial in both directions, and others.
func patterns() []uint32 {
	out := []uint32{0x55555555, 0xaaaaaaaa, 0xedb88320, 0xdb710641, 0x04c11db7, 0x80000001, 0x0000ffff, 0xff00ff00}
	for bit := range 32 {
		out = append(out, 1<<bit, 0xffffffff>>bit, 1|1<<bit)
	}
	source := rand.New(rand.NewSource(6))
	for range 30 {
		out = append(out, source.Uint32()|1)
	}
	return out
}

// inverted returns s with the bits of the pattern inverted from a bit of s on, the lowest bit of a byte first, and false if they don't fit.
func inverted(s string, from int, pattern uint32) (string, bool) {
	out := []byte(s)
	for bit := range 32 {
		if pattern>>bit&1 == 0 {
			continue
		}
		at := from + bit
		if at >= 8*len(out) {
			return "", false
		}
		out[at/8] ^= 1 << (at % 8)
	}
	return string(out), true
}

func TestInvertedBits(t *testing.T) {
	sources := []string{"a", "ab", "abc", "abcd", "abcde", "\x00\x00\x00\x00\x00\x00\x00\x00", strings.Repeat("\xff", 12), randomText(7, 50)}
	for _, s := range sources {
		whole := crc.Of(s)
		tried := 0
		for from := range 8 * len(s) {
			for _, pattern := range patterns() {
				other, fits := inverted(s, from, pattern)
				if !fits {
					continue
				}
				tried++
				if crc.Of(other) == whole {
					t.Errorf("%q with %08x inverted from bit %d: the same checksum", s, pattern, from)
				}
			}
		}
		if tried == 0 {
			t.Errorf("%q: no bits inverted", s)
		}
	}
}

func TestInvertedBitsOfLongText(t *testing.T) {
	s := randomText(8, 2000)
	whole := crc.Of(s)
	for _, from := range []int{0, 1, 7, 8, 31, 32, 33, 2047, 2048, 7990, 8*len(s) - 33, 8*len(s) - 32} {
		for _, pattern := range patterns() {
			other, fits := inverted(s, from, pattern)
			if !fits || crc.Of(other) == whole {
				t.Errorf("%08x inverted from bit %d: the same checksum", pattern, from)
			}
		}
	}
}

// Each of the patterns of up to 16 bits, at each bit of a short string.
func TestInvertedShortRuns(t *testing.T) {
	s := "\x00a\xff"
	whole := crc.Of(s)
	for from := range 8 * len(s) {
		for pattern := uint32(1); pattern < 1<<16; pattern += 2 {
			other, fits := inverted(s, from, pattern)
			if fits && crc.Of(other) == whole {
				t.Fatalf("%04x inverted from bit %d: the same checksum", pattern, from)
			}
		}
	}
}

func exclusiveOr(a, b, c string) string {
	out := make([]byte, len(a))
	for i := range out {
		out[i] = a[i] ^ b[i] ^ c[i]
	}
	return string(out)
}

func checkThree(t *testing.T, a, b, c string) {
	t.Helper()
	got := crc.Of(a) ^ crc.Of(b) ^ crc.Of(c)
	if want := crc.Of(exclusiveOr(a, b, c)); got != want {
		t.Errorf("three strings of %d bytes: %08x; want %08x", len(a), got, want)
	}
}

func TestThreeStrings(t *testing.T) {
	checkThree(t, "", "", "")
	checkThree(t, "let", "for", "var")
	for size := range 520 {
		a, b, c := randomText(9, size), randomText(10, size), randomText(11, size)
		checkThree(t, a, b, c)
		checkThree(t, a, a, b)
		checkThree(t, a, a, a)
		checkThree(t, a, strings.Repeat("\x00", size), strings.Repeat("\xff", size))
	}
}

func TestThreeStringsOfEachByte(t *testing.T) {
	for b := range 256 {
		for c := range 256 {
			checkThree(t, "\x00", string([]byte{byte(b)}), string([]byte{byte(c)}))
		}
	}
}
