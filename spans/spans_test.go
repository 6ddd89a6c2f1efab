package spans_test

import (
	"math"
	"testing"

	"collimator/api"
	"collimator/spans"
)

// Length and Dist, or OfLength and OfDist, so that both are tested in the same way.
type (
	baseOf   func(symbol int) (int, int, bool)
	symbolOf func(n int) (int, int, int, api.Errno)
)

func checkBase(t *testing.T, name string, f baseOf, symbol, base, bits int, ok bool) {
	t.Helper()
	if gotBase, gotBits, gotOk := f(symbol); gotBase != base || gotBits != bits || gotOk != ok {
		t.Errorf("%s(%d) = %d, %d, %t; want %d, %d, %t", name, symbol, gotBase, gotBits, gotOk, base, bits, ok)
	}
}

func checkSymbol(t *testing.T, name string, f symbolOf, n, symbol, bits, value int, want api.Errno) {
	t.Helper()
	if gotSymbol, gotBits, gotValue, e := f(n); gotSymbol != symbol || gotBits != bits || gotValue != value || e != want {
		t.Errorf("%s(%d) = %d, %d, %d, %d; want %d, %d, %d, %d", name, n, gotSymbol, gotBits, gotValue, e, symbol, bits, value, want)
	}
}

// P8.1: every symbol with its base and its extra bits.
func TestLength(t *testing.T) {
	if n := len(lengthSpans()); n != 29 {
		t.Fatalf("%d length symbols", n)
	}
	for at, s := range lengthSpans() {
		if s.symbol != 257+at {
			t.Fatalf("the length symbol %d stands at %d", s.symbol, at)
		}
		checkBase(t, "Length", spans.Length, s.symbol, s.first, s.bits, true)
	}
}

func TestDist(t *testing.T) {
	if n := len(distSpans()); n != 30 {
		t.Fatalf("%d distance symbols", n)
	}
	for at, s := range distSpans() {
		if s.symbol != at {
			t.Fatalf("the distance symbol %d stands at %d", s.symbol, at)
		}
		checkBase(t, "Dist", spans.Dist, s.symbol, s.first, s.bits, true)
	}
}

// P8.1: 0, 0 and false for every other symbol.
func TestOtherSymbols(t *testing.T) {
	for symbol := -70000; symbol <= 70000; symbol++ {
		if symbol < 257 || symbol > 285 {
			checkBase(t, "Length", spans.Length, symbol, 0, 0, false)
		}
		if symbol < 0 || symbol > 29 {
			checkBase(t, "Dist", spans.Dist, symbol, 0, 0, false)
		}
	}
	for _, symbol := range farNumbers() {
		checkBase(t, "Length", spans.Length, symbol, 0, 0, false)
		checkBase(t, "Dist", spans.Dist, symbol, 0, 0, false)
	}
}

// farNumbers would be valid symbols, lengths or distances if only some of their bits were looked at, or if a difference went round.
func farNumbers() []int {
	numbers := []int{math.MinInt, math.MinInt + 1, math.MaxInt - 1, math.MaxInt}
	for _, n := range []int{0, 1, 3, 29, 257, 258, 285, 32768} {
		numbers = append(numbers, n+1<<32, n-1<<32, math.MinInt+n, math.MaxInt-n)
	}
	return numbers
}

// P8.2, with the chapter's examples.
func TestOfLength(t *testing.T) {
	cases := []struct{ n, symbol, bits, value int }{
		{3, 257, 0, 0}, {4, 258, 0, 0}, {9, 263, 0, 0}, {10, 264, 0, 0},
		{11, 265, 1, 0}, {12, 265, 1, 1}, {13, 266, 1, 0}, {18, 268, 1, 1},
		{19, 269, 2, 0}, {22, 269, 2, 3}, {100, 279, 4, 1}, {130, 280, 4, 15},
		{131, 281, 5, 0}, {226, 283, 5, 31}, {227, 284, 5, 0},
		{256, 284, 5, 29}, {257, 284, 5, 30}, {258, 285, 0, 0},
	}
	for _, c := range cases {
		checkSymbol(t, "OfLength", spans.OfLength, c.n, c.symbol, c.bits, c.value, api.OK)
	}
}

func TestOfDist(t *testing.T) {
	cases := []struct{ n, symbol, bits, value int }{
		{1, 0, 0, 0}, {2, 1, 0, 0}, {3, 2, 0, 0}, {4, 3, 0, 0},
		{5, 4, 1, 0}, {6, 4, 1, 1}, {7, 5, 1, 0}, {8, 5, 1, 1},
		{9, 6, 2, 0}, {12, 6, 2, 3}, {13, 7, 2, 0}, {1000, 19, 8, 231},
		{16384, 27, 12, 4095}, {16385, 28, 13, 0}, {24576, 28, 13, 8191},
		{24577, 29, 13, 0}, {32767, 29, 13, 8190}, {32768, 29, 13, 8191},
	}
	for _, c := range cases {
		checkSymbol(t, "OfDist", spans.OfDist, c.n, c.symbol, c.bits, c.value, api.OK)
	}
}

// P8.2: the first and the last number of each symbol, which fill its extra bits, but for 284.
func TestEndsOfSymbols(t *testing.T) {
	for _, s := range lengthSpans() {
		checkSymbol(t, "OfLength", spans.OfLength, s.first, s.symbol, s.bits, 0, api.OK)
		value := 1<<s.bits - 1
		if s.symbol == 284 {
			value = 30
		}
		checkSymbol(t, "OfLength", spans.OfLength, s.last, s.symbol, s.bits, value, api.OK)
	}
	for _, s := range distSpans() {
		checkSymbol(t, "OfDist", spans.OfDist, s.first, s.symbol, s.bits, 0, api.OK)
		checkSymbol(t, "OfDist", spans.OfDist, s.last, s.symbol, s.bits, 1<<s.bits-1, api.OK)
	}
}

// P8.2: ErrArg, and zeros beside it, for every other number.
func TestOtherNumbers(t *testing.T) {
	for n := -70000; n <= 70000; n++ {
		if n < 3 || n > 258 {
			checkSymbol(t, "OfLength", spans.OfLength, n, 0, 0, 0, api.ErrArg)
		}
		if n < 1 || n > 32768 {
			checkSymbol(t, "OfDist", spans.OfDist, n, 0, 0, 0, api.ErrArg)
		}
	}
	for _, n := range farNumbers() {
		checkSymbol(t, "OfLength", spans.OfLength, n, 0, 0, 0, api.ErrArg)
		checkSymbol(t, "OfDist", spans.OfDist, n, 0, 0, 0, api.ErrArg)
	}
}
