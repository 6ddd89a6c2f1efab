package spans_test

import (
	"slices"
	"testing"

	"collimator/api"
	"collimator/spans"
)

// symbolsFor lists the symbols from first to last that represent n by their bases and extra bits.
func symbolsFor(t *testing.T, base baseOf, first, last, n int) []int {
	t.Helper()
	var found []int
	for symbol := first; symbol <= last; symbol++ {
		from, bits, ok := base(symbol)
		if !ok {
			t.Fatalf("%d is no symbol", symbol)
		}
		if from <= n && n < from+1<<bits {
			found = append(found, symbol)
		}
	}
	return found
}

// checkNumber expects that the base of the symbol of n plus the value of its extra bits is n, and that these bits can hold the value.
func checkNumber(t *testing.T, base baseOf, of symbolOf, n int) int {
	t.Helper()
	symbol, bits, value, e := of(n)
	from, same, ok := base(symbol)
	if e != api.OK || !ok || bits != same {
		t.Fatalf("%d has the symbol %d with %d bits, error %d; that symbol has %d bits, %t", n, symbol, bits, e, same, ok)
	}
	if from+value != n {
		t.Errorf("%d is represented as %d + %d", n, from, value)
	}
	if value < 0 || value >= 1<<bits {
		t.Errorf("%d: the value %d has not %d bits", n, value, bits)
	}
	return symbol
}

// P8.3 for every length.
func TestEveryLength(t *testing.T) {
	for n := 3; n <= 258; n++ {
		symbol := checkNumber(t, spans.Length, spans.OfLength, n)
		want := []int{symbol}
		if n == 258 {
			want = []int{284, 285}
		}
		if found := symbolsFor(t, spans.Length, 257, 285, n); !slices.Equal(found, want) {
			t.Errorf("the length %d is represented by %v; want %v", n, found, want)
		}
		if n == 258 && symbol != 285 {
			t.Errorf("OfLength(258) returns the symbol %d", symbol)
		}
	}
}

// P8.3 for every distance.
func TestEveryDist(t *testing.T) {
	for n := 1; n <= 32768; n++ {
		symbol := checkNumber(t, spans.Dist, spans.OfDist, n)
		if found := symbolsFor(t, spans.Dist, 0, 29, n); !slices.Equal(found, []int{symbol}) {
			t.Errorf("the distance %d is represented by %v; want only %d", n, found, symbol)
		}
	}
}

// Every number of every symbol is held against the tables that are written out.
func TestEverySpan(t *testing.T) {
	for _, s := range lengthSpans() {
		for n := s.first; n <= s.last; n++ {
			checkSymbol(t, "OfLength", spans.OfLength, n, s.symbol, s.bits, n-s.first, api.OK)
		}
	}
	for _, s := range distSpans() {
		for n := s.first; n <= s.last; n++ {
			checkSymbol(t, "OfDist", spans.OfDist, n, s.symbol, s.bits, n-s.first, api.OK)
		}
	}
}

// Each symbol's extra bits reach up to the base of the next one: no number from the first base on is left out. Only 285 repeats a number of the symbol before it.
func TestNoGaps(t *testing.T) {
	next := 3
	for symbol := 257; symbol <= 284; symbol++ {
		base, bits, ok := spans.Length(symbol)
		if base != next || !ok {
			t.Errorf("Length(%d) has the base %d; want %d", symbol, base, next)
		}
		next = base + 1<<bits
	}
	if next != 259 {
		t.Errorf("the symbol 284 ends before %d; want 259", next)
	}
	next = 1
	for symbol := range 30 {
		base, bits, ok := spans.Dist(symbol)
		if base != next || !ok {
			t.Errorf("Dist(%d) has the base %d; want %d", symbol, base, next)
		}
		next = base + 1<<bits
	}
	if next != api.Window+1 {
		t.Errorf("the symbol 29 ends before %d; want %d", next, api.Window+1)
	}
}
