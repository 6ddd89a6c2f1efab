package block_test

import (
	"slices"
	"strings"
	"testing"

	"collimator/api"
	"collimator/bitrow"
	"collimator/block"
)

func fixed(final bool) block.Head {
	return block.Head{Final: final, Kind: api.Fixed, Lits: modelFixedLits(), Dists: modelFixedDists()}
}

// The chapter's examples.
func TestReadExamples(t *testing.T) {
	checkRead(t, newReader(t, "\x03", 0), fixed(true), 3, api.OK)
	checkRead(t, newReader(t, "\x01\x05\x00\xfa\xff", 0), block.Head{Final: true, Kind: api.Stored, Size: 5}, 40, api.OK)
	checkRead(t, newReader(t, "\x01\x05\x00\xfa\xfe", 0), block.Head{}, 0, api.ErrSize)
	checkRead(t, newReader(t, "\x07", 0), block.Head{}, 0, api.ErrBlock)
	h, e := block.Read(newReader(t, "\x03", 0))
	if len(h.Lits) != 288 || len(h.Dists) != 32 || e != api.OK {
		t.Errorf("Fixed: %d Lits, %d Dists, %d", len(h.Lits), len(h.Dists), e)
	}
}

// noReaders are a nil reader and ones that bitrow did not return.
func noReaders(t *testing.T) []*bitrow.Reader {
	copied := *newReader(t, "\x03\x03\x03", 0)
	return []*bitrow.Reader{nil, {}, new(bitrow.Reader), &copied}
}

func TestNoReader(t *testing.T) {
	for i, r := range noReaders(t) {
		if h, e := block.Read(r); !isZero(h) || e != api.ErrNil {
			t.Errorf("reader %d: Read = %v, %d; want ErrNil", i, h, e)
		}
	}
}

func TestReadFixed(t *testing.T) {
	checkRow(t, "010", fixed(false), api.OK)
	checkRow(t, "110", fixed(true), api.OK)
}

func TestReadNoKind(t *testing.T) {
	checkFault(t, "011", api.ErrBlock)
	checkFault(t, "111", api.ErrBlock)
}

// storedRow is a Stored header behind that many bits, with any two numbers.
func storedRow(final bool, at int, padding string, size, second int) string {
	row := bitOf(final) + "00"
	for (at+len(row))%8 != 0 {
		row += padding
	}
	return row + number(size, 16) + number(second, 16)
}

// eachStored visits each position in a byte, and each value of Final and of the padding.
func eachStored(visit func(at int, final bool, padding string)) {
	for at := range 17 {
		for _, final := range []bool{false, true} {
			visit(at, final, "0")
			visit(at, final, "1")
		}
	}
}

// checkStored expects a size or an error, also with bits behind the header, and ErrShort if a byte is missing.
func checkStored(t *testing.T, size, second int, e api.Errno) {
	t.Helper()
	eachStored(func(at int, final bool, padding string) {
		row := storedRow(final, at, padding, size, second)
		s := packed(strings.Repeat("1", at) + row)
		want := block.Head{Final: final, Size: size}
		checkRead(t, newReader(t, s, at), want, len(row), e)
		checkRead(t, newReader(t, s+"\xff\x00", at), want, len(row), e)
		for cut := (at + 7) / 8; cut < len(s); cut++ {
			checkRead(t, newReader(t, s[:cut], at), block.Head{}, 0, api.ErrShort)
		}
	})
}

func TestReadStored(t *testing.T) {
	for _, size := range []int{0, 1, 2, 255, 256, 257, 0x5a0f, 32767, 32768, 65534, 65535} {
		checkStored(t, size, 65535-size, api.OK)
		checkStored(t, size, size, api.ErrSize)
		checkStored(t, size, (65535-size+1)%65536, api.ErrSize)
		for i := range 16 {
			checkStored(t, size, 65535-size^1<<i, api.ErrSize)
			checkStored(t, size^1<<i, 65535-size, api.ErrSize)
		}
	}
	checkStored(t, 0, 0, api.ErrSize)
	checkStored(t, 65535, 65535, api.ErrSize)
	checkStored(t, 0x1234, 0xedcb, api.OK)
	checkStored(t, 0x1234, 0xcbed, api.ErrSize)
}

// A header that ends within its first three bits is ErrShort, whatever its Kind could be.
func TestReadShortStart(t *testing.T) {
	for _, row := range []string{"", "0", "1", "00", "01", "10", "11"} {
		checkRead(t, endingIn(t, row), block.Head{}, 0, api.ErrShort)
	}
}

// numbers is a Dynamic header up to its three numbers.
func numbers(final bool, lits, dists, told int) string {
	return dynamic{final: final, lits: lits, dists: dists, inner: evenInner(), told: told}.start()[:17]
}

// More than 286 Lits or 30 Dists are told after the three numbers, ahead of what follows them.
func TestReadTooManyLengths(t *testing.T) {
	for _, told := range []int{4, 19} {
		for dists := 1; dists <= 32; dists++ {
			checkFault(t, numbers(dists%2 == 0, 287, dists, told), api.ErrBig)
			checkFault(t, numbers(dists%2 == 1, 288, dists, told), api.ErrBig)
		}
		for lits := 257; lits <= 288; lits++ {
			checkFault(t, numbers(lits%2 == 0, lits, 31, told), api.ErrBig)
			checkFault(t, numbers(lits%2 == 1, lits, 32, told), api.ErrBig)
		}
	}
}

// endOnly are Lits of which only the symbol 256 has a code, of one bit.
func endOnly(lits int) []int {
	return with(repeated(0, lits), 256, 1)
}

// checkDynamic expects these lengths of a header that tells them by these steps.
func checkDynamic(t *testing.T, d dynamic, lits, dists []int) {
	t.Helper()
	checkRow(t, d.row(), block.Head{Final: d.final, Kind: api.Dynamic, Lits: lits, Dists: dists}, api.OK)
}

// From the fewest lengths to the most.
func TestReadNumbersOfLengths(t *testing.T) {
	for _, c := range []struct{ lits, dists int }{{257, 1}, {257, 30}, {258, 2}, {285, 29}, {286, 1}, {286, 30}} {
		lits, dists := endOnly(c.lits), with(repeated(0, c.dists), c.dists-1, 1)
		d := dynamicOf(c.lits, c.dists, append(plain(lits), plain(dists)...)...)
		checkDynamic(t, d, lits, dists)
		d.final = true
		checkDynamic(t, d, lits, dists)
	}
}

// The codes of the lengths are of any kind: Lits and Dists with all lengths from 1 to 15.
func TestReadEachLength(t *testing.T) {
	ladder := []int{1, 2, 3, 4, 5, 6, 7, 8, 9, 10, 11, 12, 13, 14, 15, 15}
	lits := append(ladder, repeated(0, 250)...)
	lits[256], lits[0] = 1, 0
	dists := append(repeated(0, 3), ladder...)
	checkDynamic(t, dynamicOf(len(lits), len(dists), append(plain(lits), plain(dists)...)...), lits, dists)
}

// shortEnd is a header of 257 Lits and one Dist, in which only the symbols 0, 1, 16, 17 and 18 may occur.
func shortEnd(inner []int, told int) (dynamic, []int, []int) {
	steps := append(plain(endOnly(257)), step{0, 0})
	return dynamic{lits: 257, dists: 1, inner: inner, told: told, steps: steps}, endOnly(257), []int{0}
}

// Each length of the code length code stands at its place in the order, and the ones that are not told are 0: a code of one bit for one symbol, and one for 0.
func TestReadOrder(t *testing.T) {
	for place, symbol := range modelOrder() {
		if symbol == 0 {
			continue
		}
		if place >= 4 {
			checkFault(t, twoCodes(place, place), api.ErrUnder)
		}
		for told := max(place+1, 4); told <= 19; told++ {
			checkTwoCodes(t, twoCodes(place, told), symbol)
		}
	}
}

// twoCodes is the beginning of a header for 257 Lits and one Dist that tells so many lengths of the code length code: 1 at that place and at the place of 0, and 0 at the others.
func twoCodes(place, told int) string {
	row := "001" + number(0, 5) + number(0, 5) + number(told-4, 4)
	for i := range told {
		if i == place || i == 3 {
			row += "100"
		} else {
			row += "000"
		}
	}
	return row
}

// checkTwoCodes expects that 0 is read as the symbol 0, and 1 as this one.
func checkTwoCodes(t *testing.T, row string, symbol int) {
	t.Helper()
	zeros := func(n int) string { return strings.Repeat("0", n) }
	switch symbol {
	case 16:
		checkFault(t, row+"1", api.ErrForm)
		checkFault(t, row+zeros(256)+"100", api.ErrBig)
		checkFault(t, row+zeros(255)+"100", api.ErrNone)
	case 17:
		checkFault(t, row+zeros(256)+"1000", api.ErrBig)
		checkFault(t, row+zeros(255)+"1000", api.ErrNone)
	case 18:
		checkFault(t, row+zeros(248)+"10000000", api.ErrBig)
		checkFault(t, row+zeros(247)+"10000000", api.ErrNone)
	default:
		// As many codes of that length as there are, the symbol 256 among them; the Lits have too few for more than 8 bits.
		lits := repeated(0, 257)
		for i := range min(1<<symbol, 257) {
			lits[256-i] = symbol
		}
		for _, length := range append(lits, 0) {
			row += bitOf(length > 0)
		}
		e := api.OK
		if symbol > 8 {
			e = api.ErrUnder
		}
		checkRow(t, row, block.Head{Kind: api.Dynamic, Lits: lits, Dists: []int{0}}, e)
	}
}

// The lengths of the code length code are told to be unfit before the sequence is read.
func TestReadUnfitInner(t *testing.T) {
	none := repeated(0, 19)
	for _, c := range []struct {
		inner []int
		e     api.Errno
	}{
		{none, api.ErrEmpty},
		{with(none, 0, 1), api.ErrUnder},
		{with(none, 18, 1), api.ErrUnder},
		{with(none, 15, 1), api.ErrUnder},
		{with(none, 7, 7), api.ErrUnder},
		{with(with(none, 0, 1), 1, 2), api.ErrUnder},
		{with(with(with(none, 0, 1), 1, 1), 2, 7), api.ErrOver},
		{with(with(with(none, 0, 1), 17, 1), 16, 1), api.ErrOver},
		{repeated(4, 19), api.ErrOver},
		{repeated(5, 19), api.ErrUnder},
		{repeated(7, 19), api.ErrUnder},
		{repeated(1, 19), api.ErrOver},
		{with(evenInner(), 18, 4), api.ErrOver},
		{with(evenInner(), 18, 0), api.ErrUnder},
		{with(evenInner(), 0, 5), api.ErrUnder},
	} {
		checkFault(t, dynamic{lits: 257, dists: 1, inner: c.inner, told: 19}.start(), c.e)
		checkFault(t, dynamic{final: true, lits: 286, dists: 30, inner: c.inner, told: 19}.start(), c.e)
	}
	checkFault(t, dynamic{lits: 257, dists: 1, inner: none, told: 4}.start(), api.ErrEmpty)
	checkFault(t, dynamic{lits: 257, dists: 1, inner: with(none, 17, 1), told: 4}.start(), api.ErrUnder)
	checkFault(t, dynamic{lits: 257, dists: 1, inner: with(with(with(none, 17, 1), 16, 1), 0, 1), told: 4}.start(), api.ErrOver)
}

// 16 as the first symbol is told without its extra bits.
func TestReadNoPreviousLength(t *testing.T) {
	d := dynamicOf(257, 1)
	codes := codeTexts(d.inner)
	checkFault(t, d.row()+codes[16], api.ErrForm)
	d = dynamicOf(286, 30)
	checkFault(t, d.row()+codes[16], api.ErrForm)
}

// 16 behind each other symbol repeats what that one stands for at its end.
func TestReadPreviousLength(t *testing.T) {
	zeros := func(n int) []step { return plain(repeated(0, n)) }
	for length := 2; length <= 15; length++ {
		// One code of each length from 1 to length - 2 leaves room for four of this length.
		var steps []step
		for shorter := 1; shorter <= length-2; shorter++ {
			steps = append(steps, step{shorter, 0})
		}
		steps = slices.Concat(steps, zeros(253-len(steps)), []step{{length, 0}, {16, 0}, {0, 0}})
		lits := spread(steps)[:257]
		checkDynamic(t, dynamicOf(257, 1, steps...), lits, []int{0})
	}
	checkSteps(t, 257, 1, slices.Concat([]step{{5, 0}, {17, 0}, {16, 3}}, zeros(246), []step{{1, 0}, {0, 0}})...)
	checkSteps(t, 257, 1, slices.Concat([]step{{5, 0}, {18, 0}, {16, 3}}, zeros(238), []step{{1, 0}, {0, 0}})...)
	checkSteps(t, 257, 1, slices.Concat([]step{{17, 0}, {16, 3}, {16, 0}}, zeros(244), []step{{1, 0}, {0, 0}})...)
	checkSteps(t, 257, 1, slices.Concat([]step{{2, 0}, {1, 0}, {2, 0}, {0, 0}, {16, 1}}, zeros(248), []step{{1, 0}, {0, 0}})...)
}

// spread are the lengths that steps stand for.
func spread(steps []step) []int {
	var lengths []int
	for _, s := range steps {
		length := s.symbol
		switch length {
		case 16:
			length = lengths[len(lengths)-1]
		case 17, 18:
			length = 0
		}
		lengths = append(lengths, repeated(length, lengthsOf(s))...)
	}
	return lengths
}

// checkSteps expects what the lengths of these steps must give: the lengths, or the error behind the sequence.
func checkSteps(t *testing.T, lits, dists int, steps ...step) {
	t.Helper()
	lengths := spread(steps)
	if len(lengths) != lits+dists {
		t.Fatalf("the steps stand for %d lengths, not %d", len(lengths), lits+dists)
	}
	h := block.Head{Kind: api.Dynamic, Lits: lengths[:lits], Dists: lengths[lits:]}
	e := api.OK
	if h.Lits[256] == 0 {
		e = api.ErrNone
	}
	for _, l := range [][]int{h.Lits, h.Dists} {
		if e == api.OK {
			e = modelFits(l, true)
		}
	}
	checkRow(t, dynamicOf(lits, dists, steps...).row(), h, e)
}

// Each repetition, with the least and the greatest value of its extra bits and with each one between.
func TestReadRepetitions(t *testing.T) {
	repetitions := []step{}
	for value := range 128 {
		repetitions = append(repetitions, step{18, value})
		if value < 8 {
			repetitions = append(repetitions, step{17, value})
		}
		if value < 4 {
			repetitions = append(repetitions, step{16, value})
		}
	}
	for _, s := range repetitions {
		if s.symbol == 18 && s.value > 2 && s.value < 126 && s.value&(s.value-1) != 0 {
			continue // so that the test does not last long; each bit of the value is still seen by itself
		}
		// It stands first but for one length, in the middle, and last, in the Dists.
		n := lengthsOf(s)
		rest := plain(repeated(0, 255-n))
		checkSteps(t, 257, 1, slices.Concat([]step{{0, 0}, s}, rest, []step{{1, 0}, {0, 0}})...)
		checkSteps(t, 257, 2, slices.Concat(rest, []step{{1, 0}, s}, []step{{1, 0}, {1, 0}, {1, 0}})...)
		if n < 30 {
			checkSteps(t, 257, 1+n, slices.Concat(plain(endOnly(257)), []step{{0, 0}, s})...)
		}
	}
}

// A repetition of a length that is not 0, with the greatest value: eight codes of the length 3.
func TestReadRepeatedLength(t *testing.T) {
	lits := slices.Concat(repeated(0, 249), repeated(3, 8))
	steps := slices.Concat(plain(repeated(0, 249)), []step{{3, 0}, {16, 3}, {3, 0}, {0, 0}})
	checkDynamic(t, dynamicOf(257, 1, steps...), lits, []int{0})
	steps = slices.Concat(plain(repeated(0, 249)), []step{{3, 0}, {16, 1}, {16, 0}, {0, 0}})
	checkDynamic(t, dynamicOf(257, 1, steps...), lits, []int{0})
}

// Repetitions that cross from Lits into Dists, and that end where the sequence ends.
func TestReadCrossing(t *testing.T) {
	// Two codes of one bit at the end of Lits, and two at the beginning of Dists.
	steps := slices.Concat(plain(repeated(0, 255)), []step{{1, 0}, {16, 0}})
	checkDynamic(t, dynamicOf(257, 2, steps...), append(repeated(0, 255), 1, 1), []int{1, 1})
	// Four codes of two bits at the end of Lits, and four that are all of Dists.
	steps = slices.Concat(plain(repeated(0, 253)), []step{{2, 0}, {16, 1}, {16, 0}})
	checkDynamic(t, dynamicOf(257, 4, steps...), append(repeated(0, 253), 2, 2, 2, 2), repeated(2, 4))
	// Zeros from Lits into Dists and up to the end.
	for _, s := range []step{{17, 0}, {17, 7}, {18, 0}, {18, 19}} {
		n := lengthsOf(s)
		for lits := max(258, 257+n-30); lits <= min(286, 257+n-1); lits++ {
			dists := n - (lits - 257)
			steps := append(plain(endOnly(257)), s)
			checkDynamic(t, dynamicOf(lits, dists, steps...), endOnly(lits), repeated(0, dists))
		}
	}
}

// A repetition that exceeds the end of the sequence by one and by more; and the one that just does not.
func TestReadExceeding(t *testing.T) {
	for _, s := range []step{{16, 0}, {16, 3}, {17, 0}, {17, 7}, {18, 0}, {18, 19}, {18, 127}} {
		n := lengthsOf(s)
		for _, left := range []int{1, 2, n - 2, n - 1} {
			if left < 1 {
				continue
			}
			// From Lits on, and from within Dists.
			d := dynamicOf(286, 30, append(plain(repeated(0, 316-left)), s)...)
			checkFault(t, d.row(), api.ErrBig)
		}
		d := dynamicOf(286, 30, append(plain(repeated(0, 316-n)), s)...)
		checkFault(t, d.row(), api.ErrNone)
	}
}

// Behind the sequence: first the symbol 256, then Lits, then Dists.
func TestReadUnfitLengths(t *testing.T) {
	for _, c := range unfitLengths() {
		steps := append(plain(c.lits), plain(c.dists)...)
		h := block.Head{Kind: api.Dynamic, Lits: c.lits, Dists: c.dists}
		checkRow(t, dynamicOf(len(c.lits), len(c.dists), steps...).row(), h, c.e)
	}
}

// lengthsCase are lengths from 0 to 15 that fit, or the error that they give.
type lengthsCase struct {
	lits, dists []int
	e           api.Errno
}

func unfitLengths() []lengthsCase {
	none := repeated(0, 257)
	full := append(repeated(0, 255), 1, 1)
	return []lengthsCase{
		// The length of the symbol 256 is 0.
		{none, []int{0}, api.ErrNone},
		{with(with(none, 0, 1), 255, 1), []int{1, 1}, api.ErrNone},
		{with(none, 0, 1), []int{1, 1}, api.ErrNone},
		{append(repeated(8, 256), 0), []int{1, 1}, api.ErrNone},
		{with(repeated(0, 286), 257, 1), []int{1}, api.ErrNone},
		{with(none, 0, 2), []int{1, 1, 1}, api.ErrNone},
		// One length alone.
		{with(none, 256, 1), []int{0}, api.OK},
		{with(none, 256, 1), []int{1}, api.OK},
		{with(none, 256, 2), []int{0}, api.ErrUnder},
		{with(none, 256, 15), []int{1}, api.ErrUnder},
		{with(none, 256, 1), []int{2}, api.ErrUnder},
		{with(none, 256, 1), []int{0, 0, 15}, api.ErrUnder},
		{with(none, 256, 1), []int{0, 0, 1}, api.OK},
		{full, []int{0, 1, 0}, api.OK},
		{full, repeated(0, 30), api.OK},
		// Several.
		{full, []int{1, 1}, api.OK},
		{full, []int{1, 1, 1}, api.ErrOver},
		{full, []int{1, 1, 15}, api.ErrOver},
		{full, []int{1, 2}, api.ErrUnder},
		{full, []int{2, 2, 2}, api.ErrUnder},
		{full, []int{2, 2, 2, 2}, api.OK},
		{full, []int{15, 15}, api.ErrUnder},
		{with(full, 0, 1), []int{1, 1}, api.ErrOver},
		{with(full, 0, 15), []int{1, 1}, api.ErrOver},
		{with(full, 0, 15), []int{0}, api.ErrOver},
		{with(full, 255, 2), []int{1, 1}, api.ErrUnder},
		{with(with(none, 256, 15), 0, 15), []int{1, 1}, api.ErrUnder},
		{repeated(8, 257), []int{1, 1}, api.ErrOver},
		{repeated(9, 286), []int{1, 1}, api.ErrUnder},
		{append(repeated(8, 255), 9, 9), []int{1, 1}, api.OK},
		// Lits ahead of Dists.
		{with(full, 0, 1), []int{2}, api.ErrOver},
		{with(full, 255, 2), []int{1, 1, 1}, api.ErrUnder},
	}
}

// With an error Read may be called again, with the same result, and the reader still reads.
func TestReadAgain(t *testing.T) {
	rows := []string{"111" + number(5, 5), "100" + "00000" + number(5, 16) + number(5, 16), numbers(true, 288, 32, 19) + "1111111", "1", ""}
	rows = append(rows, dynamicOf(257, 1).row()+codeTexts(evenInner())[16])
	for _, row := range rows {
		s := packed(row)
		r := newReader(t, s, 0)
		if s == "" {
			checkRead(t, r, block.Head{}, 0, api.ErrShort)
			continue
		}
		e := checkModel(t, s, 0)
		for range 3 {
			checkRead(t, r, block.Head{}, 0, e)
		}
		if v, e := r.Bits(8); v != int(s[0]) || e != api.OK || r.At() != 8 {
			t.Errorf("behind an error: Bits = %d, %d at %d", v, e, r.At())
		}
	}
}

// Headers that follow each other are read one by one.
func TestReadOneByOne(t *testing.T) {
	d, lits, dists := shortEnd(evenInner(), 19)
	row := "010" + d.row() + "110"
	row += storedRow(false, len(row), "1", 77, 65535-77)
	row += d.row() + "010" + "011"
	r := newReader(t, packed(row), 0)
	dynamicHead := block.Head{Kind: api.Dynamic, Lits: lits, Dists: dists}
	checkRead(t, r, fixed(false), 3, api.OK)
	checkRead(t, r, dynamicHead, len(d.row()), api.OK)
	checkRead(t, r, fixed(true), 3, api.OK)
	checkRead(t, r, block.Head{Size: 77}, (r.At()+10)/8*8+32-r.At(), api.OK)
	checkRead(t, r, dynamicHead, len(d.row()), api.OK)
	checkRead(t, r, fixed(false), 3, api.OK)
	checkRead(t, r, block.Head{}, 0, api.ErrBlock)
}

// Nothing of a result is shared: neither its two lists, nor the lists of two results, nor what lies behind them.
func TestReadResultsAreNew(t *testing.T) {
	d, lits, dists := shortEnd(evenInner(), 19)
	for _, c := range []struct {
		row  string
		want block.Head
	}{
		{"110", fixed(true)},
		{d.row(), block.Head{Kind: api.Dynamic, Lits: lits, Dists: dists}},
	} {
		var heads []block.Head
		for range 3 {
			h, e := block.Read(newReader(t, packed(c.row), 0))
			if e != api.OK || !sameHead(h, c.want) {
				t.Fatalf("Read = %v, %d", h, e)
			}
			heads = append(heads, h)
		}
		for i := range heads {
			overwrite(heads[i].Lits, 99)
			if !slices.Equal(heads[i].Dists, c.want.Dists) {
				t.Errorf("Dists share memory with Lits")
			}
			overwrite(heads[i].Dists, 99)
			for _, h := range heads[i+1:] {
				if !sameHead(h, c.want) {
					t.Errorf("two results share memory")
				}
			}
		}
		h, e := block.Read(newReader(t, packed(c.row), 0))
		if e != api.OK || !sameHead(h, c.want) {
			t.Errorf("behind changed results: Read = %v, %d", h, e)
		}
	}
}

// overwrite sets a list and what lies behind it.
func overwrite(l []int, value int) {
	l = l[:cap(l)]
	for i := range l {
		l[i] = value
	}
}
