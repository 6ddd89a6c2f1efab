package prefix_test

import (
	"math/rand"
	"strings"
	"testing"

	"collimator/api"
	"collimator/bitrow"
	"collimator/prefix"
)

// checkSequences reads at the beginning of each sequence of that many bits.
func checkSequences(t *testing.T, l []int, bits int) {
	t.Helper()
	x, codes := newTable(t, l), modelCodes(l)
	for n := range 1 << bits {
		row := make([]byte, bits)
		for i := range row {
			row[i] = byte('0' + n>>i&1)
		}
		checkRead(t, x, codes, string(row))
	}
}

// checkAround reads each code, whole and cut, with bits 0 and 1 behind it.
func checkAround(t *testing.T, l []int) {
	t.Helper()
	x, codes := newTable(t, l), modelCodes(l)
	for code := range codes {
		for cut := range len(code) + 1 {
			checkRead(t, x, codes, code[:cut])
		}
		for n := 1; n <= 17; n++ {
			checkRead(t, x, codes, code+strings.Repeat("0", n))
			checkRead(t, x, codes, code+strings.Repeat("1", n))
		}
	}
}

// Each sequence of up to 5 bits, by all short lists of lengths.
func TestReadShortLists(t *testing.T) {
	eachList([]int{0, 1, 2, 3}, 4, func(l []int) {
		if !hasCodes(l) {
			return
		}
		for bits := range 6 {
			checkSequences(t, l, bits)
		}
		checkAround(t, l)
	})
	eachList([]int{0, 1, 8, 9, 10, 15}, 4, func(l []int) {
		if hasCodes(l) {
			checkAround(t, l)
		}
	})
}

// Each sequence of 13 to 16 bits: fewer, just as many and more than the longest code has.
func TestReadSequences(t *testing.T) {
	lists := [][]int{nil, {0, 1}, {2, 1, 3, 3}, {2, 0, 12}, ladder(), ladder()[:15], ladder()[1:], completeLengths(5), incompleteLengths(6)}
	for _, l := range lists {
		for bits := 13; bits <= 16; bits++ {
			checkSequences(t, l, bits)
		}
	}
}

// The codes of one length, from one of them to as many as there are.
func TestReadEqualLengths(t *testing.T) {
	for size := 1; size <= 15; size++ {
		for _, count := range []int{1, 2, 3, 63, 64, 65, 255, 256, 319, 320} {
			if count <= 1<<size {
				checkAround(t, repeated(size, count))
			}
		}
	}
}

func TestReadLongLists(t *testing.T) {
	for seed := range int64(30) {
		checkAround(t, completeLengths(seed))
		checkAround(t, incompleteLengths(seed))
	}
}

// Read goes through a string as the model does, from each position on.
func TestReadAtEachPosition(t *testing.T) {
	source := rand.New(rand.NewSource(9))
	text := make([]byte, 12)
	source.Read(text)
	s := string(text)
	row := rowOf(s)
	for seed := range int64(30) {
		l := incompleteLengths(seed)
		x, codes := newTable(t, l), modelCodes(l)
		for at := range len(row) + 1 {
			r := newReader(t, s, at)
			for r.Left() > 0 {
				from := r.At()
				checkReadFrom(t, x, codes, r, row[from:])
				if r.At() == from {
					break
				}
			}
		}
	}
}

// Each symbol of a list is written as the model's code of it, and those without one are not.
func TestWriteEachSymbol(t *testing.T) {
	check := func(l []int) {
		if !hasCodes(l) {
			checkNoWrite(t, l, 0, api.ErrOver)
			return
		}
		for code, symbol := range modelCodes(l) {
			checkWrite(t, l, symbol, "101", code)
		}
		for symbol, size := range l {
			if size == 0 {
				checkNoWrite(t, l, symbol, api.ErrArg)
			}
		}
	}
	eachList([]int{0, 1, 2, 3, 15}, 4, check)
	for seed := range int64(20) {
		check(completeLengths(seed))
		check(incompleteLengths(seed))
	}
}

// codedSymbols are those that have a code.
func codedSymbols(l []int) []int {
	var symbols []int
	for symbol, size := range l {
		if size > 0 {
			symbols = append(symbols, symbol)
		}
	}
	return symbols
}

// checkReadBack writes the symbols behind some bits and reads them back, at the positions at which they were written.
func checkReadBack(t *testing.T, l, symbols []int, before string) {
	t.Helper()
	w := writerOf(t, before)
	var ends []int
	for _, symbol := range symbols {
		if e := prefix.Write(w, l, symbol); e != api.OK {
			t.Fatalf("Write of %d by %v: %d", symbol, l, e)
		}
		ends = append(ends, w.Len())
	}
	x := newTable(t, l)
	r := newReader(t, w.Text(), len(before))
	for i, symbol := range symbols {
		if got, e := x.Read(r); got != symbol || e != api.OK || r.At() != ends[i] {
			t.Fatalf("lengths %v: symbol %d, %d, is read back as %d, %d, up to %d; want %d", l, i, symbol, got, e, r.At(), ends[i])
		}
	}
	if r.At() != w.Len() {
		t.Errorf("%d bits were read; want %d", r.At(), w.Len())
	}
}

func TestReadBack(t *testing.T) {
	source := rand.New(rand.NewSource(17))
	shuffled := func(l []int) []int {
		coded := codedSymbols(l)
		var symbols []int
		for range 300 {
			if len(coded) > 0 {
				symbols = append(symbols, coded[source.Intn(len(coded))])
			}
		}
		return symbols
	}
	for seed := range int64(40) {
		for _, l := range [][]int{completeLengths(seed), incompleteLengths(seed)} {
			before := strings.Repeat("1", source.Intn(20))
			checkReadBack(t, l, codedSymbols(l), before)
			checkReadBack(t, l, shuffled(l), before)
		}
	}
	for _, l := range [][]int{nil, {0}, {1}, {1, 1}, {15}, {2, 1, 3, 3}, ladder(), repeated(8, 256), repeated(15, 320)} {
		for before := range 17 {
			checkReadBack(t, l, shuffled(l), strings.Repeat("1", before))
		}
	}
}

func TestReadBackShortLists(t *testing.T) {
	eachList([]int{0, 1, 2, 3, 9, 10, 15}, 4, func(l []int) {
		if hasCodes(l) {
			coded := codedSymbols(l)
			checkReadBack(t, l, append(coded, coded...), "")
		}
	})
}

// Symbols of several codes follow each other in one row, with other numbers between them.
func TestReadBackMixed(t *testing.T) {
	source := rand.New(rand.NewSource(18))
	lists := [][]int{{2, 1, 3, 3}, ladder(), completeLengths(7), incompleteLengths(8)}
	var tables []*prefix.Table
	for _, l := range lists {
		tables = append(tables, newTable(t, l))
	}
	type item struct{ list, symbol, extra int }
	var items []item
	w := bitrow.Open()
	for range 500 {
		list := source.Intn(len(lists))
		coded := codedSymbols(lists[list])
		x := item{list, coded[source.Intn(len(coded))], source.Intn(32)}
		items = append(items, x)
		prefix.Write(w, lists[list], x.symbol)
		w.Put(x.extra, 5)
	}
	r := newReader(t, w.Text(), 0)
	for i, x := range items {
		symbol, e := tables[x.list].Read(r)
		extra, extraE := r.Bits(5)
		if symbol != x.symbol || e != api.OK || extra != x.extra || extraE != api.OK {
			t.Fatalf("item %d, %v, is read back as %d, %d and %d, %d", i, x, symbol, e, extra, extraE)
		}
	}
}

func FuzzPrefix(f *testing.F) {
	f.Add([]byte{2, 1, 3, 3}, "\x3a", 0)
	f.Add([]byte{2, 0, 12}, "\xff\xff", 2)
	f.Add([]byte{1, 1, 1}, "", 0)
	f.Add([]byte{255, 16}, "abc", 24)
	f.Add(make([]byte, 321), "abc", 7)
	f.Fuzz(func(t *testing.T, sizes []byte, s string, at int) {
		l := make([]int, len(sizes))
		for i, size := range sizes {
			l[i] = int(int8(size))
		}
		x, e := prefix.New(l)
		if (x == nil) != (e != api.OK) {
			t.Fatalf("New(%v) = %v, %d", l, x, e)
		}
		r, re := bitrow.New(s, at)
		if e != api.OK {
			checkNoWrite(t, l, at, e)
			if symbol, e := x.Read(r); symbol != 0 || e != api.ErrNil {
				t.Fatalf("Read without a table = %d, %d", symbol, e)
			}
			return
		}
		checkReadBack(t, l, codedSymbols(l), "")
		if re == api.OK {
			checkReadFrom(t, x, modelCodes(l), r, rowOf(s)[at:])
		}
	})
}
