package block_test

import (
	"math"
	"slices"
	"testing"

	"collimator/api"
	"collimator/bitrow"
	"collimator/block"
)

// The chapter's examples, written.
func TestWriteExamples(t *testing.T) {
	for _, c := range []struct {
		h    block.Head
		bits int
		text string
	}{
		{block.Head{Final: true, Kind: api.Fixed}, 3, "\x03"},
		{block.Head{Kind: api.Fixed}, 3, "\x02"},
		{block.Head{Final: true, Kind: api.Stored, Size: 5}, 40, "\x01\x05\x00\xfa\xff"},
		{block.Head{Kind: api.Stored, Size: 0x1234}, 40, "\x00\x34\x12\xcb\xed"},
	} {
		w := bitrow.Open()
		if e := block.Write(w, c.h); e != api.OK || w.Len() != c.bits || w.Text() != c.text {
			t.Errorf("Write of %v = %d: %d bits, %q; want %d, %q", c.h, e, w.Len(), w.Text(), c.bits, c.text)
		}
	}
}

// A Dynamic header, bit by bit.
func TestWriteDynamic(t *testing.T) {
	h := block.Head{Final: true, Kind: api.Dynamic, Lits: append(repeated(0, 255), 1, 2, 3, 3), Dists: []int{0, 1}}
	row := "1" + "01" + "01000" + "10000" + "1111"
	row += "000" + "000" + "000" // 16, 17 and 18
	for range 16 {
		row += "001" // a length of 4
	}
	for range 255 {
		row += "0000"
	}
	row += "0001" + "0010" + "0011" + "0011" + "0000" + "0001"
	w := bitrow.Open()
	if e := block.Write(w, h); e != api.OK {
		t.Fatalf("Write = %d", e)
	}
	checkWriter(t, w, row)
}

// noWriters are a nil writer and ones that bitrow did not return.
func noWriters() []*bitrow.Writer {
	copied := *bitrow.Open()
	return []*bitrow.Writer{nil, {}, new(bitrow.Writer), &copied}
}

// someHeads are headers that can be written.
func someHeads() []block.Head {
	heads := []block.Head{{}, {Final: true}, {Size: 65535}, {Kind: api.Fixed}, {Kind: api.Fixed, Final: true}}
	for _, c := range unfitLengths() {
		if c.e == api.OK {
			heads = append(heads, block.Head{Kind: api.Dynamic, Lits: c.lits, Dists: c.dists}, block.Head{Final: true, Kind: api.Dynamic, Lits: c.lits, Dists: c.dists})
		}
	}
	return heads
}

// headCase is a header that is not written, and the error that Write returns.
type headCase struct {
	h block.Head
	e api.Errno
}

// faultyHeads are headers that can't be written. Many have several faults, of which the first one must be told.
func faultyHeads() []headCase {
	full, none := append(repeated(0, 255), 1, 1), repeated(0, 257)
	two := []int{1, 1}
	var cases []headCase
	for _, kind := range []int{-1, 3, 4, -2, 256, 257, 258, 1 << 32, 1<<32 + 1, math.MinInt, math.MinInt + 2, math.MaxInt} {
		cases = append(cases, headCase{block.Head{Kind: kind, Size: 5, Lits: full, Dists: two}, api.ErrArg}, headCase{block.Head{Kind: kind, Final: true, Size: -1, Lits: none}, api.ErrArg})
	}
	for _, size := range []int{-1, 65536, -2, 65537, 1 << 17, 1 << 32, 1<<32 + 5, -65536, math.MinInt, math.MaxInt} {
		cases = append(cases, headCase{block.Head{Size: size}, api.ErrArg}, headCase{block.Head{Size: size, Final: true, Lits: full, Dists: two}, api.ErrArg})
	}
	// How many there are comes ahead of what they are.
	for _, count := range []int{0, 1, 255, 256, 287, 288, 289, 320, 321, 1000} {
		lists := [][]int{repeated(0, count), repeated(1, count), repeated(99, count)}
		for _, lits := range lists {
			cases = append(cases, headCase{block.Head{Kind: api.Dynamic, Lits: lits, Dists: two}, api.ErrArg}, headCase{block.Head{Kind: api.Dynamic, Lits: lits}, api.ErrArg})
		}
	}
	for _, count := range []int{0, 31, 32, 33, 320, 321, 1000} {
		for _, lits := range [][]int{full, none, repeated(1, 257), repeated(9, 286)} {
			cases = append(cases, headCase{block.Head{Kind: api.Dynamic, Lits: lits, Dists: repeated(0, count)}, api.ErrArg}, headCase{block.Head{Kind: api.Dynamic, Lits: lits, Dists: repeated(99, count)}, api.ErrArg})
		}
	}
	for _, c := range unfitLengths() {
		if c.e != api.OK {
			cases = append(cases, headCase{block.Head{Kind: api.Dynamic, Lits: c.lits, Dists: c.dists}, c.e})
		}
	}
	// Lengths that are none: the symbol 256 comes ahead of them, and Lits ahead of Dists.
	for _, bad := range []int{-1, 16, 17, 256, 1 << 32, math.MinInt, math.MaxInt} {
		for _, c := range []lengthsCase{
			{with(full, 0, bad), two, api.ErrArg},
			{with(full, 256, bad), two, api.ErrArg},
			{with(none, 0, bad), two, api.ErrNone},
			{full, []int{bad}, api.ErrArg},
			{full, []int{1, 1, 1, bad}, api.ErrArg},
			{none, []int{bad}, api.ErrNone},
			{with(full, 0, 1), []int{bad}, api.ErrOver},
			{with(full, 255, 2), []int{bad}, api.ErrUnder},
			{with(full, 0, bad), []int{1, 1, 1}, api.ErrArg},
		} {
			cases = append(cases, headCase{block.Head{Kind: api.Dynamic, Lits: c.lits, Dists: c.dists}, c.e})
		}
	}
	return cases
}

// A writer that is none is told first, whatever else is wrong.
func TestNoWriter(t *testing.T) {
	heads := someHeads()
	for _, c := range faultyHeads() {
		heads = append(heads, c.h)
	}
	for i, w := range noWriters() {
		for _, h := range heads {
			if e := block.Write(w, h); e != api.ErrNil {
				t.Errorf("writer %d: Write of %v = %d; want ErrNil", i, h, e)
			}
		}
		if w.Len() != 0 || w.Text() != "" {
			t.Errorf("writer %d has %d bits", i, w.Len())
		}
	}
}

func TestWriteHeads(t *testing.T) {
	for _, h := range someHeads() {
		checkWrite(t, h)
	}
}

func TestWriteErrors(t *testing.T) {
	for _, c := range faultyHeads() {
		checkNoWrite(t, c.h, c.e)
	}
}

// What does not belong to the Kind is not looked at.
func TestWriteOtherFields(t *testing.T) {
	lists := [][]int{nil, {0}, {99}, repeated(1, 257), repeated(-1, 1000)}
	for _, lits := range lists {
		for _, dists := range lists {
			checkWrite(t, block.Head{Size: 300, Lits: lits, Dists: dists})
			for _, size := range []int{0, -1, 65535, 65536, math.MinInt, math.MaxInt} {
				checkWrite(t, block.Head{Kind: api.Fixed, Size: size, Lits: lits, Dists: dists})
			}
		}
	}
	for _, size := range []int{-1, 1, 65535, 65536, math.MinInt, math.MaxInt} {
		checkWrite(t, block.Head{Kind: api.Dynamic, Size: size, Lits: endOnly(257), Dists: []int{1, 1}})
	}
}

// A Stored header aligns itself: the padding is 0, also where bits 1 stand ahead of it.
func TestWriteAligned(t *testing.T) {
	for at := range 25 {
		w := writerOf(t, "1111111111111111111111111"[:at])
		block.Write(w, block.Head{Final: true, Size: 0xabcd})
		if want := (at+3+7)/8*8 + 32; w.Len() != want {
			t.Errorf("behind %d bits the header ends at %d; want %d", at, w.Len(), want)
		}
		row := rowOf(w.Text())
		if tail := row[at : len(row)-32]; tail != ("100" + "00000000")[:len(tail)] {
			t.Errorf("behind %d bits the header begins with %s", at, tail)
		}
	}
}

// The lengths and what lies behind them remain as they are.
func TestArgumentsRemain(t *testing.T) {
	heads := someHeads()
	for _, c := range faultyHeads() {
		heads = append(heads, c.h)
	}
	for _, h := range heads {
		lits, dists := append(slices.Clone(h.Lits), 5, 6, 7), append(slices.Clone(h.Dists), 8, 9)
		h.Lits, h.Dists = lits[:len(h.Lits)], dists[:len(h.Dists)]
		before := whole(h)
		block.Write(bitrow.Open(), h)
		if !isSame(before, h) {
			t.Errorf("%v became %v", before, whole(h))
		}
	}
}

// What was written does not change with the lengths.
func TestLengthsChangeBehindWrite(t *testing.T) {
	h := block.Head{Kind: api.Dynamic, Lits: append(repeated(0, 255), 1, 1), Dists: []int{1, 1}}
	row := modelWritten(h, 0)
	w := bitrow.Open()
	block.Write(w, h)
	overwrite(h.Lits, 7)
	overwrite(h.Dists, 7)
	checkWriter(t, w, row)
}

// The fixed code lengths are new lists each time.
func TestFixedLengths(t *testing.T) {
	for _, c := range []struct {
		of   func() []int
		want []int
	}{{block.FixedLits, modelFixedLits()}, {block.FixedDists, modelFixedDists()}} {
		first, second := c.of(), c.of()
		if !slices.Equal(first, c.want) || !slices.Equal(second, c.want) {
			t.Errorf("fixed lengths %v, %v; want %v", first, second, c.want)
		}
		overwrite(first, 99)
		if !slices.Equal(second, c.want) {
			t.Errorf("two lists share memory")
		}
		if third := c.of(); !slices.Equal(third, c.want) {
			t.Errorf("behind a changed list: %v", third)
		}
		checkRead(t, newReader(t, "\x03", 0), fixed(true), 3, api.OK)
	}
	if len(block.FixedLits()) != 288 || len(block.FixedDists()) != 32 {
		t.Errorf("%d and %d fixed lengths", len(block.FixedLits()), len(block.FixedDists()))
	}
}
