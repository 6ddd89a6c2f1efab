package block_test

import (
	"math/rand"
	"reflect"
	"slices"
	"strings"
	"testing"

	"collimator/api"
	"collimator/bitrow"
	"collimator/block"
)

// The model of bits is a text of the digits 0 and 1, in the order in which they are read.

// rowOf writes out the bits of a string.
func rowOf(s string) string {
	var row strings.Builder
	for i := range 8 * len(s) {
		row.WriteByte('0' + s[i/8]>>(i%8)&1)
	}
	return row.String()
}

// number writes out n bits of v, the lowest one first.
func number(v, n int) string {
	var row strings.Builder
	for i := range n {
		row.WriteByte(byte('0' + v>>i&1))
	}
	return row.String()
}

// packed is the string of a row that is filled up with bits 0 to whole bytes.
func packed(row string) string {
	s := make([]byte, (len(row)+7)/8)
	for i := range row {
		s[i/8] |= (row[i] - '0') << (i % 8)
	}
	return string(s)
}

func bitOf(is bool) string {
	if is {
		return "1"
	}
	return "0"
}

// modelOrder is the order of the code length code, as the chapter tells it.
func modelOrder() []int {
	return []int{16, 17, 18, 0, 8, 7, 9, 6, 10, 5, 11, 4, 12, 3, 13, 2, 14, 1, 15}
}

// modelCodes are the symbols by their codes, the highest bit first: the shorter codes first, those of one length in the order of the symbols, each of them the number that follows the one before it.
func modelCodes(l []int) map[string]int {
	codes := map[string]int{}
	next := 0
	for size := 1; size <= 15; size++ {
		next *= 2
		for symbol, s := range l {
			if s == size {
				code := ""
				for i := size - 1; i >= 0; i-- {
					code += string(rune('0' + next>>i&1))
				}
				codes[code] = symbol
				next++
			}
		}
	}
	return codes
}

// codeTexts are the codes by their symbols.
func codeTexts(l []int) map[int]string {
	texts := map[int]string{}
	for code, symbol := range modelCodes(l) {
		texts[symbol] = code
	}
	return texts
}

// modelFits is lens.Fits of at most 320 lengths.
func modelFits(l []int, lone bool) api.Errno {
	sum, coded := 0, 0
	for _, size := range l {
		if size < 0 || size > 15 {
			return api.ErrArg
		}
		if size > 0 {
			coded++
			sum += 1 << (15 - size)
		}
	}
	switch {
	case sum > 1<<15:
		return api.ErrOver
	case sum == 1<<15, lone && coded == 0, lone && coded == 1 && sum == 1<<14:
		return api.OK
	case coded == 0:
		return api.ErrEmpty
	}
	return api.ErrUnder
}

// cursor goes through a row; it panics with the first error.
type cursor struct {
	row string
	at  int
}

func (c *cursor) take(n int) string {
	if n > len(c.row)-c.at {
		panic(api.ErrShort)
	}
	c.at += n
	return c.row[c.at-n : c.at]
}

func (c *cursor) number(n int) int {
	v := 0
	for i, digit := range c.take(n) {
		v += int(digit-'0') << i
	}
	return v
}

func (c *cursor) symbol(codes map[string]int) int {
	for code := ""; ; {
		code += c.take(1)
		if symbol, ok := codes[code]; ok {
			return symbol
		}
	}
}

func mustBe(ok bool, e api.Errno) {
	if !ok {
		panic(e)
	}
}

// modelRead is Read of a reader of this row at a position: the header and the position behind it, or the error and the same position.
func modelRead(row string, at int) (h block.Head, end int, e api.Errno) {
	defer func() {
		if x := recover(); x != nil {
			h, end, e = block.Head{}, at, x.(api.Errno)
		}
	}()
	c := &cursor{row, at}
	h.Final = c.take(1) == "1"
	h.Kind = c.number(2)
	switch h.Kind {
	case 0:
		for c.at%8 != 0 {
			c.take(1)
		}
		h.Size = c.number(16)
		mustBe(h.Size+c.number(16) == 65535, api.ErrSize)
	case 1:
		h.Lits, h.Dists = modelFixedLits(), modelFixedDists()
	case 2:
		h.Lits, h.Dists = modelLengths(c)
	case 3:
		panic(api.ErrBlock)
	}
	return h, c.at, api.OK
}

func modelLengths(c *cursor) (lits, dists []int) {
	lits, dists = make([]int, 257+c.number(5)), make([]int, 1+c.number(5))
	inner := make([]int, 19)
	told := 4 + c.number(4)
	mustBe(len(lits) <= 286 && len(dists) <= 30, api.ErrBig)
	for _, symbol := range modelOrder()[:told] {
		inner[symbol] = c.number(3)
	}
	e := modelFits(inner, false)
	mustBe(e == api.OK, e)
	codes := modelCodes(inner)
	var all []int
	for left := len(lits) + len(dists); left > 0; left = len(lits) + len(dists) - len(all) {
		var more []int
		switch symbol := c.symbol(codes); symbol {
		case 16:
			mustBe(len(all) > 0, api.ErrForm)
			more = repeated(all[len(all)-1], 3+c.number(2))
		case 17:
			more = repeated(0, 3+c.number(3))
		case 18:
			more = repeated(0, 11+c.number(7))
		default:
			more = []int{symbol}
		}
		mustBe(len(more) <= left, api.ErrBig)
		all = append(all, more...)
	}
	copy(lits, all)
	copy(dists, all[len(lits):])
	mustBe(lits[256] != 0, api.ErrNone)
	e = modelFits(lits, true)
	mustBe(e == api.OK, e)
	e = modelFits(dists, true)
	mustBe(e == api.OK, e)
	return lits, dists
}

// modelFixedLits are the fixed code lengths, symbol by symbol.
func modelFixedLits() []int {
	l := make([]int, 288)
	for symbol := range l {
		switch {
		case symbol <= 143:
			l[symbol] = 8
		case symbol <= 255:
			l[symbol] = 9
		case symbol <= 279:
			l[symbol] = 7
		default:
			l[symbol] = 8
		}
	}
	return l
}

func modelFixedDists() []int {
	return repeated(5, 32)
}

// repeated is a list of count lengths, all of them size.
func repeated(size, count int) []int {
	return slices.Repeat([]int{size}, count)
}

// with returns a copy of l in which the length at a symbol is another one.
func with(l []int, symbol, size int) []int {
	l = slices.Clone(l)
	l[symbol] = size
	return l
}

// step is a symbol of the sequence, with the value of its extra bits if it has any.
type step struct{ symbol, value int }

// plain are the steps that tell each length by itself.
func plain(lengths []int) []step {
	var steps []step
	for _, length := range lengths {
		steps = append(steps, step{length, 0})
	}
	return steps
}

// dynamic is what a Dynamic header tells.
type dynamic struct {
	final       bool
	lits, dists int   // how many
	inner       []int // of the 19 symbols of the code length code
	told        int   // how many of these, in their order
	steps       []step
}

// row writes the header out, whether it can be read or not.
func (d dynamic) row() string {
	row := d.start()
	codes := codeTexts(d.inner)
	for _, s := range d.steps {
		code, ok := codes[s.symbol]
		if !ok {
			panic("a step without a code")
		}
		row += code
		switch s.symbol {
		case 16:
			row += number(s.value, 2)
		case 17:
			row += number(s.value, 3)
		case 18:
			row += number(s.value, 7)
		}
	}
	return row
}

// start is the header up to the lengths of the code length code.
func (d dynamic) start() string {
	row := bitOf(d.final) + "01" + number(d.lits-257, 5) + number(d.dists-1, 5) + number(d.told-4, 4)
	for _, symbol := range modelOrder()[:d.told] {
		row += number(d.inner[symbol], 3)
	}
	return row
}

// evenInner has a code for each of the 19 symbols: 13 of 4 bits and 6 of 5.
func evenInner() []int {
	return append(repeated(4, 13), repeated(5, 6)...)
}

// dynamicOf tells the lengths by these steps, with a code for each symbol.
func dynamicOf(lits, dists int, steps ...step) dynamic {
	return dynamic{lits: lits, dists: dists, inner: evenInner(), told: 19, steps: steps}
}

func newReader(t *testing.T, s string, at int) *bitrow.Reader {
	t.Helper()
	r, e := bitrow.New(s, at)
	if e != api.OK {
		t.Fatalf("a reader of %d bytes at %d: %d", len(s), at, e)
	}
	return r
}

// endingIn returns a reader that has the bits of the row left and none more.
func endingIn(t *testing.T, row string) *bitrow.Reader {
	t.Helper()
	before := strings.Repeat("1", (8-len(row)%8)%8)
	return newReader(t, packed(before+row), len(before))
}

// sameHead compares the fields; an empty list is as good as nil.
func sameHead(a, b block.Head) bool {
	return a.Final == b.Final && a.Kind == b.Kind && a.Size == b.Size && slices.Equal(a.Lits, b.Lits) && slices.Equal(a.Dists, b.Dists)
}

// isZero reports whether it is the zero value, with lists that are nil or empty.
func isZero(h block.Head) bool {
	return sameHead(h, block.Head{})
}

// checkRead expects this header, or this error, and that the reader goes to the end, or remains where it is.
func checkRead(t *testing.T, r *bitrow.Reader, want block.Head, size int, wantE api.Errno) {
	t.Helper()
	from, left := r.At(), r.Left()
	if wantE != api.OK {
		want, size = block.Head{}, 0
	}
	h, e := block.Read(r)
	if e != wantE || !sameHead(h, want) {
		t.Fatalf("Read at %d with %d bits left = %v, %d; want %v, %d", from, left, h, e, want, wantE)
	}
	if r.At() != from+size || r.Left() != left-size {
		t.Fatalf("Read with the error %d goes from %d to %d, with %d left of %d; want %d", e, from, r.At(), r.Left(), left, from+size)
	}
}

// checkRow expects what a header that begins with this row, at any bit of a byte, tells with the last bit of the row and not before it: this header, or this error. It is not for Stored, which depends on the position.
func checkRow(t *testing.T, row string, want block.Head, e api.Errno) {
	t.Helper()
	for cut := range len(row) {
		checkRead(t, endingIn(t, row[:cut]), block.Head{}, 0, api.ErrShort)
	}
	checkRead(t, endingIn(t, row), want, len(row), e)
	for at := range 17 {
		for _, behind := range []string{"0", "1"} {
			s := packed(strings.Repeat("10", 9)[:at] + row + strings.Repeat(behind, 24))
			checkRead(t, newReader(t, s, at), want, len(row), e)
		}
	}
}

// checkFault is checkRow of a row that ends in a fault.
func checkFault(t *testing.T, row string, e api.Errno) {
	t.Helper()
	checkRow(t, row, block.Head{}, e)
}

// checkModel reads at a position and expects what the model reads there.
func checkModel(t *testing.T, s string, at int) api.Errno {
	t.Helper()
	want, end, e := modelRead(rowOf(s), at)
	checkRead(t, newReader(t, s, at), want, end-at, e)
	return e
}

func writerOf(t *testing.T, row string) *bitrow.Writer {
	t.Helper()
	w := bitrow.Open()
	for _, bit := range row {
		if e := w.Put(int(bit-'0'), 1); e != api.OK {
			t.Fatal(e)
		}
	}
	return w
}

func checkWriter(t *testing.T, w *bitrow.Writer, row string) {
	t.Helper()
	if w.Len() != len(row) || w.Text() != packed(row) {
		t.Fatalf("the writer has %d bits, %q; want %d, %q", w.Len(), w.Text(), len(row), packed(row))
	}
}

// checkWrite expects that the header is appended behind any number of bits.
func checkWrite(t *testing.T, h block.Head) {
	t.Helper()
	for at := range 17 {
		before := strings.Repeat("1", at)
		w := writerOf(t, before)
		if e := block.Write(w, h); e != api.OK {
			t.Fatalf("Write of %v: %d", h, e)
		}
		checkWriter(t, w, before+modelWritten(h, at))
		w.Put(1, 1)
		checkWriter(t, w, before+modelWritten(h, at)+"1")
	}
}

// checkNoWrite expects an error, and that nothing is appended.
func checkNoWrite(t *testing.T, h block.Head, want api.Errno) {
	t.Helper()
	for _, before := range []string{"", "1", "0110", "1111111", "11111111", "101010101010101"} {
		w := writerOf(t, before)
		if e := block.Write(w, h); e != want {
			t.Fatalf("Write of %v = %d; want %d", h, e, want)
		}
		checkWriter(t, w, before)
		w.Put(1, 1)
		checkWriter(t, w, before+"1")
	}
}

// modelWritten are the bits that Write appends behind that many bits.
func modelWritten(h block.Head, at int) string {
	row := bitOf(h.Final) + number(h.Kind, 2)
	switch h.Kind {
	case 0:
		for (at+len(row))%8 != 0 {
			row += "0"
		}
		row += number(h.Size, 16) + number(65535-h.Size, 16)
	case 2:
		d := dynamic{h.Final, len(h.Lits), len(h.Dists), append(repeated(4, 16), 0, 0, 0), 19, nil}
		d.steps = append(plain(h.Lits), plain(h.Dists)...)
		row = d.row()
	}
	return row
}

// readBack is what Read returns for a header that was written.
func readBack(h block.Head) block.Head {
	switch h.Kind {
	case 0:
		h.Lits, h.Dists = nil, nil
	case 1:
		h.Size, h.Lits, h.Dists = 0, modelFixedLits(), modelFixedDists()
	case 2:
		h.Size = 0
	}
	return h
}

// someLengths are count lengths that fit, always the same for the same source; the symbol has a code, if it is not below 0.
func someLengths(source *rand.Rand, count, symbol int) []int {
	sizes := []int{1}
	for range source.Intn(count) {
		at := source.Intn(len(sizes))
		if source.Intn(3) == 0 {
			at = len(sizes) - 1 // so that long codes occur
		}
		if len(sizes) == 1 {
			sizes = append(sizes, 1)
		} else if sizes[at] < 15 {
			sizes[at]++
			sizes = append(sizes, sizes[at])
		}
	}
	l := append(sizes[:min(len(sizes), count)], make([]int, count-min(len(sizes), count))...)
	if symbol < 0 && source.Intn(8) == 0 {
		clear(l)
	}
	source.Shuffle(count, func(i, j int) { l[i], l[j] = l[j], l[i] })
	if symbol >= 0 && l[symbol] == 0 {
		coded := slices.IndexFunc(l, func(size int) bool { return size > 0 })
		l[symbol], l[coded] = l[coded], l[symbol]
	}
	return l
}

// someHead is a Dynamic header.
func someHead(source *rand.Rand) block.Head {
	return block.Head{
		Final: source.Intn(2) == 0,
		Kind:  api.Dynamic,
		Lits:  someLengths(source, 257+source.Intn(30), 256),
		Dists: someLengths(source, 1+source.Intn(30), -1),
	}
}

// someSteps tell the lengths, with repetitions where they are possible.
func someSteps(source *rand.Rand, lengths []int) []step {
	var steps []step
	for at := 0; at < len(lengths); {
		run := 1
		for at+run < len(lengths) && lengths[at+run] == lengths[at] {
			run++
		}
		var choices []step
		for value := range 128 {
			if lengths[at] == 0 && 11+value <= run {
				choices = append(choices, step{18, value})
			}
			if lengths[at] == 0 && value < 8 && 3+value <= run {
				choices = append(choices, step{17, value})
			}
			if at > 0 && lengths[at-1] == lengths[at] && value < 4 && 3+value <= run {
				choices = append(choices, step{16, value})
			}
		}
		choice := step{lengths[at], 0}
		if len(choices) > 0 && source.Intn(4) > 0 {
			choice = choices[source.Intn(len(choices))]
		}
		steps = append(steps, choice)
		at += lengthsOf(choice)
	}
	return steps
}

// lengthsOf is the number of lengths that a step stands for.
func lengthsOf(s step) int {
	switch s.symbol {
	case 16, 17:
		return 3 + s.value
	case 18:
		return 11 + s.value
	}
	return 1
}

// someInner is a complete code length code that has the symbols of the steps.
func someInner(source *rand.Rand, steps []step) []int {
	used := map[int]int{}
	for _, s := range steps {
		used[s.symbol] = 1
	}
	for len(used) < 2 {
		used[source.Intn(19)] = 1
	}
	inner := make([]int, 19)
	sizes := []int{1, 1}
	for len(sizes) < len(used) {
		at := source.Intn(len(sizes))
		if sizes[at] < 7 {
			sizes[at]++
			sizes = append(sizes, sizes[at])
		}
	}
	source.Shuffle(len(sizes), func(i, j int) { sizes[i], sizes[j] = sizes[j], sizes[i] })
	for symbol := range 19 {
		if used[symbol] > 0 {
			inner[symbol], sizes = sizes[0], sizes[1:]
		}
	}
	return inner
}

// someDynamic tells a header, with no more lengths of the code length code than a source chooses.
func someDynamic(source *rand.Rand, h block.Head) dynamic {
	steps := someSteps(source, slices.Concat(h.Lits, h.Dists))
	d := dynamic{h.Final, len(h.Lits), len(h.Dists), someInner(source, steps), 19, steps}
	for d.told > 4 && d.inner[modelOrder()[d.told-1]] == 0 && source.Intn(5) > 0 {
		d.told--
	}
	return d
}

// isSame compares two headers and what lies behind their lists.
func isSame(a, b block.Head) bool {
	return reflect.DeepEqual(whole(a), whole(b))
}

// whole is a header whose lists go on to their capacity, in memory of their own.
func whole(h block.Head) block.Head {
	h.Lits, h.Dists = slices.Clone(h.Lits[:cap(h.Lits)]), slices.Clone(h.Dists[:cap(h.Dists)])
	return h
}
