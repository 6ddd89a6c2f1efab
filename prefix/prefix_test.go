package prefix_test

import (
	"math"
	"slices"
	"strings"
	"testing"

	"collimator/api"
	"collimator/bitrow"
	"collimator/prefix"
)

// The chapter's example: the bits 0, 1 0, 1 1 1.
func TestExample(t *testing.T) {
	l := []int{2, 1, 3, 3}
	x := newTable(t, l)
	r := newReader(t, "\x3a", 0)
	for _, c := range []struct{ symbol, at int }{{1, 1}, {0, 3}, {3, 6}} {
		if symbol, e := x.Read(r); symbol != c.symbol || e != api.OK || r.At() != c.at {
			t.Errorf("Read = %d, %d and goes to %d; want %d at %d", symbol, e, r.At(), c.symbol, c.at)
		}
	}
	w := bitrow.Open()
	for _, symbol := range []int{1, 0, 3} {
		if e := prefix.Write(w, l, symbol); e != api.OK {
			t.Errorf("Write of %d: %d", symbol, e)
		}
	}
	checkWriter(t, w, "010111")
}

func TestSymbols(t *testing.T) {
	for count := range 321 {
		newTable(t, repeated(0, count))
		newTable(t, repeated(15, count))
	}
	for _, l := range [][]int{nil, {}, {1}, {2, 1, 3, 3}, ladder(), repeated(8, 256), completeLengths(1)} {
		newTable(t, l)
	}
}

func TestNewErrors(t *testing.T) {
	for _, c := range faulty() {
		if x, e := prefix.New(c.l); x != nil || e != c.e {
			t.Errorf("New(%v) = %v, %d; want nil, %d", c.l, x, e, c.e)
		}
	}
}

// noTables are a nil table and ones that New did not return.
func noTables(t *testing.T) []*prefix.Table {
	copied := *newTable(t, []int{2, 1, 3, 3})
	return []*prefix.Table{nil, {}, new(prefix.Table), &copied}
}

// noReaders are a nil reader and ones that bitrow did not return.
func noReaders(t *testing.T) []*bitrow.Reader {
	copied := *newReader(t, "\x3a\x3a\x3a", 0)
	return []*bitrow.Reader{nil, {}, new(bitrow.Reader), &copied}
}

// noWriters are a nil writer and ones that bitrow did not return.
func noWriters() []*bitrow.Writer {
	copied := *bitrow.Open()
	return []*bitrow.Writer{nil, {}, new(bitrow.Writer), &copied}
}

func TestNoTable(t *testing.T) {
	for i, x := range noTables(t) {
		if n := x.Symbols(); n != 0 {
			t.Errorf("table %d: Symbols = %d; want 0", i, n)
		}
		for _, row := range []string{"", "0", "111", "0000000000000000", "1111111111111111"} {
			r := endingIn(t, row)
			from := r.At()
			if symbol, e := x.Read(r); symbol != 0 || e != api.ErrNil || r.At() != from {
				t.Errorf("table %d: Read of %q = %d, %d, and goes from %d to %d; want ErrNil", i, row, symbol, e, from, r.At())
			}
		}
		for _, r := range noReaders(t) {
			if symbol, e := x.Read(r); symbol != 0 || e != api.ErrNil {
				t.Errorf("table %d: Read = %d, %d; want ErrNil", i, symbol, e)
			}
		}
	}
}

// Without a reader Peek returns bits 0: some of these lists have a code for them, some do not.
func TestNoReader(t *testing.T) {
	for _, l := range [][]int{nil, {0}, repeated(0, 320), {1}, {0, 1}, {15}, {2, 1, 3, 3}, ladder()} {
		x := newTable(t, l)
		for i, r := range noReaders(t) {
			if symbol, e := x.Read(r); symbol != 0 || e != api.ErrNil {
				t.Errorf("lengths %v, reader %d: Read = %d, %d; want ErrNil", l, i, symbol, e)
			}
		}
	}
}

// A writer that is none is told first, whatever else is wrong.
func TestNoWriter(t *testing.T) {
	lists := [][]int{nil, {0}, {2, 1, 3, 3}, ladder()}
	for _, c := range faulty() {
		lists = append(lists, c.l)
	}
	for i, w := range noWriters() {
		for _, l := range lists {
			for _, symbol := range []int{0, 1, -1, len(l), math.MinInt, math.MaxInt} {
				if e := prefix.Write(w, l, symbol); e != api.ErrNil {
					t.Errorf("writer %d: Write of %d by %v = %d; want ErrNil", i, symbol, l, e)
				}
			}
		}
		if w.Len() != 0 || w.Text() != "" {
			t.Errorf("writer %d has %d bits", i, w.Len())
		}
	}
}

func TestReadCases(t *testing.T) {
	ones := func(n int) string { return strings.Repeat("1", n) }
	zeros := func(n int) string { return strings.Repeat("0", n) }
	cases := []struct {
		l          []int
		row        string
		symbol, at int
		e          api.Errno
	}{
		// No codes at all.
		{nil, "", 0, 0, api.ErrShort},
		{nil, zeros(14), 0, 0, api.ErrShort},
		{nil, zeros(15), 0, 0, api.ErrCode},
		{nil, zeros(40), 0, 0, api.ErrCode},
		{repeated(0, 320), ones(14), 0, 0, api.ErrShort},
		{repeated(0, 320), ones(15), 0, 0, api.ErrCode},
		// A code of one bit.
		{[]int{0, 1}, "0", 1, 1, api.OK},
		{[]int{0, 1}, "01", 1, 1, api.OK},
		{[]int{0, 1}, "", 0, 0, api.ErrShort},
		{[]int{0, 1}, "1", 0, 0, api.ErrShort},
		{[]int{0, 1}, "1" + zeros(13), 0, 0, api.ErrShort},
		{[]int{0, 1}, "1" + zeros(14), 0, 0, api.ErrCode},
		{[]int{0, 1}, "1" + zeros(15), 0, 0, api.ErrCode},
		{[]int{1, 1}, "1", 1, 1, api.OK},
		// Codes of fifteen bits.
		{[]int{0, 0, 15}, zeros(15), 2, 15, api.OK},
		{[]int{0, 0, 15}, zeros(40), 2, 15, api.OK},
		{[]int{0, 0, 15}, zeros(14), 0, 0, api.ErrShort},
		{[]int{0, 0, 15}, zeros(14) + "1", 0, 0, api.ErrCode},
		{[]int{0, 0, 15, 15}, zeros(14) + "1", 3, 15, api.OK},
		{ladder(), ones(15), 15, 15, api.OK},
		{ladder(), ones(14) + "0", 14, 15, api.OK},
		{ladder(), ones(14), 0, 0, api.ErrShort},
		{ladder(), ones(13) + "0", 13, 14, api.OK},
		{ladder(), ones(13), 0, 0, api.ErrShort},
		{ladder()[:15], ones(15), 0, 0, api.ErrCode},
		{ladder()[:15], ones(14), 0, 0, api.ErrShort},
		{ladder()[:15], ones(16), 0, 0, api.ErrCode},
		// Bits that end within a code, where the bits behind the end would complete it, and where they would not.
		{[]int{2, 1, 3, 3}, "1", 0, 0, api.ErrShort},
		{[]int{2, 1, 3, 3}, "11", 0, 0, api.ErrShort},
		{[]int{2, 1, 3, 3}, "10", 0, 2, api.OK},
		{[]int{2, 1, 3, 3}, "110", 2, 3, api.OK},
		{[]int{9}, zeros(8), 0, 0, api.ErrShort},
		{[]int{9}, zeros(9), 0, 9, api.OK},
		{[]int{10}, zeros(9), 0, 0, api.ErrShort},
		{[]int{10}, zeros(10), 0, 10, api.OK},
		{[]int{10}, zeros(9) + "1" + zeros(4), 0, 0, api.ErrShort},
		{[]int{10}, zeros(9) + "1" + zeros(5), 0, 0, api.ErrCode},
	}
	for _, c := range cases {
		r := endingIn(t, c.row)
		from := r.At()
		if symbol, e := newTable(t, c.l).Read(r); symbol != c.symbol || e != c.e || r.At() != from+c.at {
			t.Errorf("lengths %v: Read of %s = %d, %d, with %d bits; want %d, %d, %d", c.l, c.row, symbol, e, r.At()-from, c.symbol, c.e, c.at)
		}
	}
}

// A reader is where it was behind an error, as often as it is asked, and goes on from there.
func TestReadAfterError(t *testing.T) {
	x := newTable(t, []int{2, 0, 12})
	r := newReader(t, "\xff\xff\x00", 1)
	for range 3 {
		if symbol, e := x.Read(r); symbol != 0 || e != api.ErrCode || r.At() != 1 {
			t.Fatalf("Read = %d, %d at %d; want ErrCode at 1", symbol, e, r.At())
		}
	}
	if v, e := r.Bits(15); v != 1<<15-1 || e != api.OK {
		t.Errorf("Bits(15) = %d, %d", v, e)
	}
	for at := 18; at <= 24; at += 2 {
		if symbol, e := x.Read(r); symbol != 0 || e != api.OK || r.At() != at {
			t.Fatalf("Read = %d, %d at %d; want 0 at %d", symbol, e, r.At(), at)
		}
	}
	for range 3 {
		if symbol, e := x.Read(r); symbol != 0 || e != api.ErrShort || r.At() != 24 {
			t.Fatalf("Read at the end = %d, %d at %d; want ErrShort", symbol, e, r.At())
		}
	}
}

func TestWriteCases(t *testing.T) {
	cases := []struct {
		l      []int
		symbol int
		code   string
	}{
		{[]int{2, 1, 3, 3}, 0, "10"},
		{[]int{2, 1, 3, 3}, 1, "0"},
		{[]int{2, 1, 3, 3}, 2, "110"},
		{[]int{2, 1, 3, 3}, 3, "111"},
		{[]int{1}, 0, "0"},
		{[]int{0, 1, 0, 1}, 3, "1"},
		{[]int{15, 15}, 1, "000000000000001"},
		{ladder(), 14, "111111111111110"},
		{ladder(), 15, "111111111111111"},
		{repeated(8, 256), 5, "00000101"},
		{with(repeated(0, 320), 319, 3), 319, "000"},
	}
	for _, c := range cases {
		for _, before := range []string{"", "1", "0110", "11111111", "101010101010101"} {
			checkWrite(t, c.l, c.symbol, before, c.code)
		}
	}
}

func TestWriteErrors(t *testing.T) {
	outside := []int{-1, -2, 1 << 32, math.MinInt, math.MinInt + 1, math.MaxInt - 1, math.MaxInt}
	for _, l := range [][]int{nil, {0}, {1}, {1, 1}, {2, 1, 3, 3}, ladder(), repeated(0, 320), repeated(15, 320)} {
		for _, symbol := range append(outside, len(l), len(l)+1, 320, 321) {
			checkNoWrite(t, l, symbol, api.ErrArg)
		}
	}
	for _, l := range [][]int{{0}, {0, 1}, {0, 3, 3, 0, 1, 2}, {1, 0, 1}, repeated(0, 320)} {
		for symbol, size := range l {
			if size == 0 {
				checkNoWrite(t, l, symbol, api.ErrArg)
			}
		}
	}
	// The error of the lengths comes ahead of that of the symbol, also of one that has a length.
	for _, c := range faulty() {
		for _, symbol := range append(outside, 0, 1, len(c.l)-1, len(c.l)) {
			checkNoWrite(t, c.l, symbol, c.e)
		}
	}
}

// The lengths and what lies behind them remain as they are.
func TestArgumentsRemain(t *testing.T) {
	for _, l := range [][]int{{}, {2, 1, 3, 3}, {0, 3, 0}, {1, 1, 1}, {1, 16}, ladder(), completeLengths(1)} {
		whole := append(slices.Clone(l), 5, 6, 7, 8)
		before := slices.Clone(whole)
		given := whole[:len(l)]
		x, e := prefix.New(given)
		if e == api.OK {
			x.Read(newReader(t, "\x3a\x3a", 0))
			x.Symbols()
		}
		for symbol := range len(l) + 1 {
			prefix.Write(bitrow.Open(), given, symbol)
		}
		if !slices.Equal(whole, before) {
			t.Errorf("%v became %v", before, whole)
		}
	}
}

// A table does not change with the lengths that it was made of.
func TestLengthsChangeBehindNew(t *testing.T) {
	for _, l := range [][]int{{2, 1, 3, 3}, {0, 3, 3, 0, 1, 2}, ladder(), completeLengths(2)} {
		codes := modelCodes(l)
		given := slices.Clone(l)
		x := newTable(t, given)
		for _, size := range []int{0, 1, 15, -1, 99} {
			for i := range given {
				given[i] = size
			}
			if x.Symbols() != len(l) {
				t.Errorf("Symbols = %d; want %d", x.Symbols(), len(l))
			}
			for code := range codes {
				checkRead(t, x, codes, code)
				checkRead(t, x, codes, code[:len(code)-1])
				checkRead(t, x, codes, code+"0110")
			}
		}
	}
}

// Tables and calls do not depend on each other.
func TestTablesAreIndependent(t *testing.T) {
	lists := [][]int{{2, 1, 3, 3}, {1, 1}, {0, 1}, ladder(), completeLengths(3), incompleteLengths(4)}
	var tables []*prefix.Table
	for _, l := range lists {
		tables = append(tables, newTable(t, l))
	}
	for _, row := range []string{"0", "10", "111", strings.Repeat("1", 15), strings.Repeat("10", 12), strings.Repeat("0011", 6)} {
		for range 2 {
			for i, x := range tables {
				checkRead(t, x, modelCodes(lists[i]), row)
				checkRead(t, newTable(t, lists[i]), modelCodes(lists[i]), row)
			}
		}
	}
}
