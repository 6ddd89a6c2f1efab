package bitrow_test

import (
	"math"
	"strings"
	"testing"

	"collimator/api"
	"collimator/bitrow"
)

// The model of a bit row is a text of the digits 0 and 1, in the order in which the bits are read.

// rowOf writes out the bits of a string.
func rowOf(s string) string {
	var row strings.Builder
	for i := range 8 * len(s) {
		row.WriteByte('0' + s[i/8]>>(i%8)&1)
	}
	return row.String()
}

// numberOf is the number of a row: its first bit has the value 1, the next one 2, and so on.
func numberOf(row string) int {
	n, value := 0, 1
	for _, bit := range row {
		if bit == '1' {
			n += value
		}
		value *= 2
	}
	return n
}

// rowOfNumber writes out the lowest n bits of v, the lowest one first.
func rowOfNumber(v, n int) string {
	var row strings.Builder
	for range n {
		row.WriteByte(byte('0' + v&1))
		v >>= 1
	}
	return row.String()
}

// packed is the string of a row that is filled up with bits 0 to whole bytes.
func packed(row string) string {
	row = filled(row)
	var s []byte
	for ; len(row) > 0; row = row[8:] {
		s = append(s, byte(numberOf(row[:8])))
	}
	return string(s)
}

func filled(row string) string {
	for len(row)%8 != 0 {
		row += "0"
	}
	return row
}

func reversed(row string) string {
	var out strings.Builder
	for i := len(row) - 1; i >= 0; i-- {
		out.WriteByte(row[i])
	}
	return out.String()
}

// dice returns a sequence of numbers from 0 to limit - 1 that is the same in each run.
func dice(seed uint64) func(limit int) int {
	return func(limit int) int {
		seed = seed*6364136223846793005 + 1442695040888963407
		return int(seed >> 31 % uint64(limit))
	}
}

// noise is a string of n bytes without a pattern.
func noise(n int) string {
	roll := dice(uint64(n) + 7)
	s := make([]byte, n)
	for i := range s {
		s[i] = byte(roll(256))
	}
	return string(s)
}

// badCounts are numbers of bits that are not from 0 to 32, with ones that a narrower number would confuse with a good one.
func badCounts() []int {
	return []int{-1, -2, -8, -32, -33, -64, math.MinInt, math.MinInt + 1, 33, 34, 40, 63, 64, 65, 256, 257, 1 << 32, 1<<32 + 1, math.MaxInt - 1, math.MaxInt}
}

func newReader(t *testing.T, s string, at int) *bitrow.Reader {
	t.Helper()
	r, e := bitrow.New(s, at)
	if r == nil || e != api.OK {
		t.Fatalf("New of %d bytes at %d: %v, %d", len(s), at, r, e)
	}
	return r
}

// checkReader compares all that a reader tells without advancing with the string and the position that it must have.
func checkReader(t *testing.T, r *bitrow.Reader, s string, at int) {
	t.Helper()
	if r.At() != at || r.Left() != 8*len(s)-at {
		t.Errorf("the reader of %d bytes is at %d with %d left; want %d and %d", len(s), r.At(), r.Left(), at, 8*len(s)-at)
	}
	rest := rowOf(s)[at:]
	if want := numberOf(rest[:min(32, len(rest))]); r.Peek(32) != want {
		t.Errorf("Peek(32) at %d = %d; want %d", at, r.Peek(32), want)
	}
}

// checkWriter compares all that a writer tells with the row that it must have.
func checkWriter(t *testing.T, w *bitrow.Writer, row string) {
	t.Helper()
	if w.Len() != len(row) {
		t.Errorf("Len() = %d; want %d", w.Len(), len(row))
	}
	if w.Text() != packed(row) {
		t.Errorf("Text() = %q; want %q", w.Text(), packed(row))
	}
}
