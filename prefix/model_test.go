package prefix_test

import (
	"math"
	"math/rand"
	"slices"
	"strings"
	"testing"

	"collimator/api"
	"collimator/bitrow"
	"collimator/prefix"
)

// The model of bits is a text of the digits 0 and 1, in the order in which they are read; that of a code is such a text, its highest bit first.

// modelCodes are the symbols by their codes: the shorter codes first, those of one length in the order of the symbols, each of them the number that follows the one before it, with digits 0 up to its length.
func modelCodes(l []int) map[string]int {
	codes := map[string]int{}
	next := ""
	for size := 1; size <= 15; size++ {
		next += "0"
		for symbol, s := range l {
			if s == size {
				codes[next] = symbol
				next = following(next)
			}
		}
	}
	return codes
}

// following is the number after a binary one of as many digits; after the last one nothing follows that is asked for.
func following(digits string) string {
	zero := strings.LastIndexByte(digits, '0')
	if zero < 0 {
		return digits
	}
	return digits[:zero] + "1" + strings.Repeat("0", len(digits)-zero-1)
}

// modelRead is the symbol at the beginning of a row, and the number of its bits.
func modelRead(codes map[string]int, row string) (symbol, size int, e api.Errno) {
	for n := 1; n <= min(15, len(row)); n++ {
		if symbol, ok := codes[row[:n]]; ok {
			return symbol, n, api.OK
		}
	}
	if len(row) < 15 {
		return 0, 0, api.ErrShort
	}
	return 0, 0, api.ErrCode
}

// rowOf writes out the bits of a string.
func rowOf(s string) string {
	var row strings.Builder
	for i := range 8 * len(s) {
		row.WriteByte('0' + s[i/8]>>(i%8)&1)
	}
	return row.String()
}

// packed is the string of a row that is filled up with bits 0 to whole bytes.
func packed(row string) string {
	s := make([]byte, (len(row)+7)/8)
	for i, bit := range row {
		if bit == '1' {
			s[i/8] |= 1 << (i % 8)
		}
	}
	return string(s)
}

// endingIn returns a reader that has the bits of the row left and none more.
func endingIn(t *testing.T, row string) *bitrow.Reader {
	t.Helper()
	before := strings.Repeat("1", (8-len(row)%8)%8)
	return newReader(t, packed(before+row), len(before))
}

func newReader(t *testing.T, s string, at int) *bitrow.Reader {
	t.Helper()
	r, e := bitrow.New(s, at)
	if e != api.OK {
		t.Fatalf("a reader of %d bytes at %d: %d", len(s), at, e)
	}
	return r
}

func newTable(t *testing.T, l []int) *prefix.Table {
	t.Helper()
	x, e := prefix.New(l)
	if x == nil || e != api.OK {
		t.Fatalf("New(%v) = %v, %d", l, x, e)
	}
	if x.Symbols() != len(l) {
		t.Fatalf("Symbols of %v = %d; want %d", l, x.Symbols(), len(l))
	}
	return x
}

// checkRead expects what the model reads, and that the position goes past the code, or remains if there is none.
func checkRead(t *testing.T, x *prefix.Table, codes map[string]int, row string) {
	t.Helper()
	checkReadFrom(t, x, codes, endingIn(t, row), row)
}

// checkReadFrom is checkRead of a reader that has this row left. (The first fault ends the test: the others would be thousands.)
func checkReadFrom(t *testing.T, x *prefix.Table, codes map[string]int, r *bitrow.Reader, row string) {
	t.Helper()
	symbol, size, wantE := modelRead(codes, row)
	from := r.At()
	got, e := x.Read(r)
	if got != symbol || e != wantE {
		t.Fatalf("codes %v: Read of %s = %d, %d; want %d, %d", codes, row, got, e, symbol, wantE)
	}
	if r.At() != from+size || r.Left() != len(row)-size {
		t.Fatalf("codes %v: Read of %s goes from %d to %d, with %d left; want %d", codes, row, from, r.At(), r.Left(), from+size)
	}
}

// checkWrite expects that a symbol's code is appended behind the bits of the row.
func checkWrite(t *testing.T, l []int, symbol int, before, code string) {
	t.Helper()
	w := writerOf(t, before)
	if e := prefix.Write(w, l, symbol); e != api.OK {
		t.Errorf("Write of %d by %v: %d", symbol, l, e)
	}
	checkWriter(t, w, before+code)
}

// checkNoWrite expects an error, and that nothing is appended.
func checkNoWrite(t *testing.T, l []int, symbol int, want api.Errno) {
	t.Helper()
	for _, before := range []string{"", "1", "0110", "11111111", "101010101010101"} {
		w := writerOf(t, before)
		if e := prefix.Write(w, l, symbol); e != want {
			t.Errorf("Write of %d by %v = %d; want %d", symbol, l, e, want)
		}
		checkWriter(t, w, before)
		w.Put(1, 1)
		checkWriter(t, w, before+"1")
	}
}

func writerOf(t *testing.T, row string) *bitrow.Writer {
	t.Helper()
	w := bitrow.Open()
	for _, bit := range row {
		if e := w.Put(int(bit-'0'), 1); e != api.OK {
			t.Fatal(e)
		}
	}
	return w
}

func checkWriter(t *testing.T, w *bitrow.Writer, row string) {
	t.Helper()
	if w.Len() != len(row) || w.Text() != packed(row) {
		t.Errorf("the writer has %d bits, %q; want %d, %q", w.Len(), w.Text(), len(row), packed(row))
	}
}

// eachList visits each list of up to most of the numbers.
func eachList(numbers []int, most int, visit func(l []int)) {
	var extend func(l []int)
	extend = func(l []int) {
		visit(l)
		if len(l) == most {
			return
		}
		for _, n := range numbers {
			extend(append(slices.Clone(l), n))
		}
	}
	extend(nil)
}

// hasCodes reports whether the Kraft sum of valid lengths is at most 2^15.
func hasCodes(l []int) bool {
	sum := 0
	for _, size := range l {
		if size > 0 {
			sum += 1 << (15 - size)
		}
	}
	return sum <= 1<<15
}

// completeLengths are those of a prefix code that is made by dividing codes in two, with symbols without a code between them, always the same for the same seed.
func completeLengths(seed int64) []int {
	source := rand.New(rand.NewSource(seed))
	l := []int{1, 1}
	for range source.Intn(319) {
		at := source.Intn(len(l))
		if source.Intn(3) == 0 {
			at = len(l) - 1 // so that long codes occur
		}
		if l[at] < 15 {
			l[at]++
			l = append(l, l[at])
		}
	}
	l = append(l, make([]int, source.Intn(320-len(l)+1))...)
	source.Shuffle(len(l), func(i, j int) { l[i], l[j] = l[j], l[i] })
	return l
}

// incompleteLengths leave bits with which no code begins.
func incompleteLengths(seed int64) []int {
	source := rand.New(rand.NewSource(seed))
	l := completeLengths(seed)
	for range 1 + source.Intn(20) {
		symbol := source.Intn(len(l))
		if l[symbol] > 0 {
			l[symbol] += source.Intn(16 - l[symbol])
		}
		if source.Intn(3) == 0 {
			l[symbol] = 0
		}
	}
	return l
}

// repeated is a list of count lengths, all of them size.
func repeated(size, count int) []int {
	return slices.Repeat([]int{size}, count)
}

// ladder is complete with one code of each length, and a second one of the length 15.
func ladder() []int {
	return []int{1, 2, 3, 4, 5, 6, 7, 8, 9, 10, 11, 12, 13, 14, 15, 15}
}

// with returns a copy of l in which the length at a symbol is another one.
func with(l []int, symbol, size int) []int {
	l = slices.Clone(l)
	l[symbol] = size
	return l
}

// faulty are lengths without codes, with the error of each list.
func faulty() []struct {
	l []int
	e api.Errno
} {
	type list = struct {
		l []int
		e api.Errno
	}
	lists := []list{
		{repeated(0, 321), api.ErrBig},
		{repeated(15, 321), api.ErrBig},
		{repeated(1, 400), api.ErrBig},
		{with(repeated(0, 321), 320, 16), api.ErrBig},
		{with(repeated(1, 321), 0, -1), api.ErrBig},
		{[]int{1, 1, 1}, api.ErrOver},
		{[]int{1, 1, 15}, api.ErrOver},
		{append(ladder(), 15), api.ErrOver},
		{repeated(1, 320), api.ErrOver},
		{repeated(8, 257), api.ErrOver},
	}
	for _, size := range []int{-1, 16, 17, 63, 64, 65, 256, 1<<16 + 1, 1<<32 + 1, math.MinInt, math.MaxInt} {
		lists = append(lists, list{[]int{size}, api.ErrArg}, list{[]int{1, 1, size}, api.ErrArg}, list{[]int{size, 1, 1, 1}, api.ErrArg}, list{with(repeated(0, 320), 319, size), api.ErrArg})
	}
	return lists
}
