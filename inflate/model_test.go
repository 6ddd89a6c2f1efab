package inflate_test

import (
	"math/rand"
	"slices"
	"strconv"
	"testing"

	"collimator/api"
	"collimator/bitrow"
	"collimator/block"
	"collimator/inflate"
	"collimator/lens"
	"collimator/prefix"
)

// outcome is what decompression must give. With an error, text is the bytes before it, and there are no starts and no end.
type outcome struct {
	text   string
	starts []inflate.Start
	end    int
	e      api.Errno
}

// writer writes blocks and keeps what they must be decompressed to.
type writer struct {
	t      *testing.T
	bits   *bitrow.Writer
	from   int // the bit at which the first block begins
	preset string
	known  []byte // the preset and the text
	starts []inflate.Start
	marks  []mark
	lits   code
	dists  code
}

// mark is how many bytes of the text are produced by how many bits.
type mark struct{ bits, bytes int }

// code is the lengths and the codes of symbols.
type code struct{ lengths, codes []int }

// write returns a writer behind that many bits 1.
func write(t *testing.T, from int, preset string) *writer {
	w := &writer{t: t, bits: bitrow.Open(), from: from, preset: preset, known: []byte(preset)}
	for range from {
		w.put(1, 1)
	}
	return w
}

func (w *writer) put(v, n int) {
	w.t.Helper()
	if e := w.bits.Put(v, n); e != api.OK {
		w.t.Fatalf("Put(%d, %d) = %d", v, n, e)
	}
}

// raw writes bits that are not kept as anything.
func (w *writer) raw(v, n int) *writer {
	w.t.Helper()
	w.put(v, n)
	return w
}

func (w *writer) mark() {
	w.marks = append(w.marks, mark{w.bits.Len(), len(w.known) - len(w.preset)})
}

// begin writes a header.
func (w *writer) begin(h block.Head) *writer {
	w.t.Helper()
	w.starts = append(w.starts, inflate.Start{Bit: w.bits.Len(), Out: len(w.known) - len(w.preset)})
	if e := block.Write(w.bits, h); e != api.OK {
		w.t.Fatalf("the header %v: %d", h, e)
	}
	if h.Kind == api.Fixed {
		h.Lits, h.Dists = block.FixedLits(), block.FixedDists()
	}
	w.lits, w.dists = w.code(h.Lits), w.code(h.Dists)
	w.mark()
	return w
}

func (w *writer) code(l []int) code {
	w.t.Helper()
	codes, e := lens.Codes(l)
	if e != api.OK {
		w.t.Fatalf("the codes of %v: %d", l, e)
	}
	return code{l, codes}
}

func (w *writer) stored(final bool, text string) *writer {
	w.t.Helper()
	w.begin(block.Head{Final: final, Kind: api.Stored, Size: len(text)})
	at := w.bits.Len()
	w.bits.Bytes(text)
	for i := range len(text) {
		w.known = append(w.known, text[i])
		w.marks = append(w.marks, mark{at + 8*i + 8, len(w.known) - len(w.preset)})
	}
	return w
}

// partly writes a Stored block that is not the last one, with so many bytes of those that it should have.
func (w *writer) partly(size int, text string) *writer {
	w.t.Helper()
	w.begin(block.Head{Kind: api.Stored, Size: size})
	w.bits.Bytes(text)
	w.known = append(w.known, text...)
	return w
}

func (w *writer) fixed(final bool) *writer {
	w.t.Helper()
	return w.begin(block.Head{Final: final, Kind: api.Fixed})
}

// dynamic begins a block in which all symbols have codes.
func (w *writer) dynamic(final bool) *writer {
	w.t.Helper()
	lits := append(slices.Repeat([]int{8}, 226), slices.Repeat([]int{9}, 60)...)
	dists := append(slices.Repeat([]int{4}, 2), slices.Repeat([]int{5}, 28)...)
	return w.begin(block.Head{Final: final, Kind: api.Dynamic, Lits: lits, Dists: dists})
}

// symbol writes the code of a symbol.
func (w *writer) symbol(c code, symbol int) {
	w.t.Helper()
	if c.lengths[symbol] == 0 {
		w.t.Fatalf("the symbol %d has no code", symbol)
	}
	if e := w.bits.Code(c.codes[symbol], c.lengths[symbol]); e != api.OK {
		w.t.Fatalf("the code of %d: %d", symbol, e)
	}
}

func (w *writer) lit(text string) *writer {
	w.t.Helper()
	for i := range len(text) {
		w.symbol(w.lits, int(text[i]))
		w.known = append(w.known, text[i])
		w.mark()
	}
	return w
}

// length and dist write a symbol with its extra bits, without producing anything.
func (w *writer) length(symbol, value, bits int) *writer {
	w.t.Helper()
	w.symbol(w.lits, symbol)
	w.put(value, bits)
	return w
}

func (w *writer) dist(symbol, value, bits int) *writer {
	w.t.Helper()
	w.symbol(w.dists, symbol)
	w.put(value, bits)
	return w
}

// copy writes a copy.
func (w *writer) copy(n, dist int) *writer {
	w.t.Helper()
	symbol := lastUpTo(modelLengths(), n)
	w.length(257+symbol.number, n-symbol.base, symbol.bits)
	symbol = lastUpTo(modelDists(), dist)
	w.dist(symbol.number, dist-symbol.base, symbol.bits)
	return w.produce(n, dist)
}

// produce keeps the bytes of a copy.
func (w *writer) produce(n, dist int) *writer {
	w.t.Helper()
	if dist > len(w.known) {
		w.t.Fatalf("a copy from %d bytes before, of %d", dist, len(w.known))
	}
	for range n {
		w.known = append(w.known, w.known[len(w.known)-dist])
	}
	w.mark()
	return w
}

func (w *writer) end() *writer {
	w.t.Helper()
	w.symbol(w.lits, 256)
	w.mark()
	return w
}

// text is what the blocks produce.
func (w *writer) text() string {
	return string(w.known[len(w.preset):])
}

// good is the outcome if the last block is Final.
func (w *writer) good() outcome {
	return outcome{text: w.text(), starts: w.starts, end: w.bits.Len()}
}

// bad is the outcome if there is an error behind what was produced.
func (w *writer) bad(e api.Errno) outcome {
	return outcome{text: w.text(), e: e}
}

// cut is the outcome if there are only so many bits: decompression stops where the next ones are missing.
func (w *writer) cut(bits int) outcome {
	for i := len(w.marks) - 1; i >= 0; i-- {
		if w.marks[i].bits <= bits {
			return outcome{text: w.text()[:w.marks[i].bytes], e: api.ErrShort}
		}
	}
	return outcome{e: api.ErrShort}
}

// checkGood expects what was written, also with anything behind it.
func (w *writer) checkGood() {
	w.t.Helper()
	for _, behind := range []string{"", "\x00", "\xff\xff", w.bits.Text()} {
		check(w.t, w.bits.Text()+behind, w.from, w.preset, w.good())
	}
}

// checkBad expects an error behind what was written, also with anything behind it.
func (w *writer) checkBad(e api.Errno) {
	w.t.Helper()
	for _, behind := range []string{"", "\x00\x00\x00\x00", "\xff\xff\xff\xff", w.bits.Text()} {
		check(w.t, w.bits.Text()+behind, w.from, w.preset, w.bad(e))
	}
}

// represents is a symbol, counted from the first of its kind on, and the numbers that it represents.
type represents struct{ number, base, bits int }

// modelLengths and modelDists are the tables of RFC 1951, 3.2.5.
func modelLengths() []represents {
	l := []represents{}
	for i, base := range []int{3, 4, 5, 6, 7, 8, 9, 10, 11, 13, 15, 17, 19, 23, 27, 31, 35, 43, 51, 59, 67, 83, 99, 115, 131, 163, 195, 227} {
		l = append(l, represents{i, base, max(0, i/4-1)})
	}
	return append(l, represents{28, 258, 0})
}

func modelDists() []represents {
	l := []represents{}
	for i, base := range []int{1, 2, 3, 4, 5, 7, 9, 13, 17, 25, 33, 49, 65, 97, 129, 193, 257, 385, 513, 769, 1025, 1537, 2049, 3073, 4097, 6145, 8193, 12289, 16385, 24577} {
		l = append(l, represents{i, base, max(0, i/2-1)})
	}
	return l
}

// lastUpTo is the last symbol whose base is not greater than n.
func lastUpTo(l []represents, n int) represents {
	for i := len(l) - 1; i >= 0; i-- {
		if l[i].base <= n {
			return l[i]
		}
	}
	panic("no symbol")
}

// model decompresses in one go; it panics with the first error.
type model struct {
	r      *bitrow.Reader
	preset int
	known  []byte
	starts []inflate.Start
}

// modelOf is the outcome of decompression that starts at a bit that there is.
func modelOf(t *testing.T, s string, bit int, preset string) (o outcome) {
	t.Helper()
	r, e := bitrow.New(s, bit)
	if e != api.OK {
		t.Fatalf("a reader of %d bytes at %d: %d", len(s), bit, e)
	}
	m := &model{r: r, preset: len(preset), known: []byte(preset)}
	defer func() {
		if x := recover(); x != nil {
			o = outcome{text: string(m.known[m.preset:]), e: x.(api.Errno)}
		}
	}()
	for !m.block() {
	}
	return outcome{text: string(m.known[m.preset:]), starts: m.starts, end: m.r.At()}
}

func must[T any](v T, e api.Errno) T {
	if e != api.OK {
		panic(e)
	}
	return v
}

// block reports whether it was the Final one.
func (m *model) block() bool {
	start := inflate.Start{Bit: m.r.At(), Out: len(m.known) - m.preset}
	h := must(block.Read(m.r))
	m.starts = append(m.starts, start)
	if h.Kind == api.Stored {
		for range h.Size {
			m.put(byte(must(m.r.Bits(8))))
		}
		return h.Final
	}
	lits, dists := must(prefix.New(h.Lits)), must(prefix.New(h.Dists))
	for {
		switch symbol := must(lits.Read(m.r)); {
		case symbol < 256:
			m.put(byte(symbol))
		case symbol == 256:
			return h.Final
		default:
			n := m.number(modelLengths(), symbol-257)
			dist := m.number(modelDists(), must(dists.Read(m.r)))
			if dist > len(m.known) {
				panic(api.ErrDist)
			}
			for range n {
				m.put(m.known[len(m.known)-dist])
			}
		}
	}
}

func (m *model) put(b byte) {
	if len(m.known)-m.preset == 1<<24 {
		panic(api.ErrBig)
	}
	m.known = append(m.known, b)
}

func (m *model) number(l []represents, symbol int) int {
	if symbol >= len(l) {
		panic(api.ErrCode)
	}
	return l[symbol].base + must(m.r.Bits(l[symbol].bits))
}

// newMachine returns a machine that there must be.
func newMachine(t *testing.T, s string, bit int, preset string) *inflate.Machine {
	t.Helper()
	m, e := inflate.New(s, bit, preset)
	if m == nil || e != api.OK {
		t.Fatalf("New of %s at %d = %p, %d", brief(s), bit, m, e)
	}
	return m
}

// check expects an outcome of All, and of steps of several sizes.
func check(t *testing.T, s string, bit int, preset string, want outcome) {
	t.Helper()
	checkAll(t, s, bit, preset, want)
	for _, sizes := range [][]int{{1}, {2}, {1, 3, 2}, {7}, {len(want.text)}, {len(want.text) + 1}, {len(want.text) - 1, 1}, {1 << 24}, {1<<63 - 1}} {
		checkSteps(t, s, bit, preset, want, sizes...)
	}
}

// checkAll expects an outcome of All: with an error nothing else.
func checkAll(t *testing.T, s string, bit int, preset string, want outcome) {
	t.Helper()
	if want.e != api.OK {
		want.text = ""
	}
	text, starts, end, e := inflate.All(s, bit, preset)
	if text != want.text || !slices.Equal(starts, want.starts) || end != want.end || e != want.e {
		t.Fatalf("All of %s at %d = %s, %v, %d, %d; want %s, %v, %d, %d", brief(s), bit, brief(text), starts, end, e, brief(want.text), want.starts, want.end, want.e)
	}
}

// checkSteps expects an outcome of steps of these sizes, which are taken in turn. (Sizes below 1 are passed over.)
func checkSteps(t *testing.T, s string, bit int, preset string, want outcome, sizes ...int) {
	t.Helper()
	checkRest(t, newMachine(t, s, bit, preset), want, 0, sizes...)
}

// checkRest expects the rest of an outcome of a machine that has returned so many bytes, and that its end does not change.
func checkRest(t *testing.T, m *inflate.Machine, want outcome, out int, sizes ...int) {
	t.Helper()
	sizes = slices.DeleteFunc(slices.Clone(sizes), func(n int) bool { return n < 1 })
	for i := 0; len(sizes) > 0 && out < len(want.text); i++ {
		out = checkStep(t, m, want, out, sizes[i%len(sizes)])
	}
	if out == len(want.text) {
		for _, n := range []int{1, 2, 1 << 24, 1} {
			checkStep(t, m, want, out, n)
		}
	}
}

// checkStep expects of one step what the outcome has behind so many bytes, and returns how many were returned then.
func checkStep(t *testing.T, m *inflate.Machine, want outcome, out, n int) int {
	t.Helper()
	checkState(t, m, want, out)
	piece, wantE := want.text[out:], api.OK
	if piece == "" {
		wantE = want.e
	}
	if n < len(piece) {
		piece = piece[:n]
	}
	if got, e := m.Step(n); got != piece || e != wantE {
		t.Fatalf("behind %d bytes: Step(%d) = %s, %d; want %s, %d", out, n, brief(got), e, brief(piece), wantE)
	}
	checkState(t, m, want, out+len(piece))
	return out + len(piece)
}

// checkState expects what a machine tells that has returned so many bytes.
func checkState(t *testing.T, m *inflate.Machine, want outcome, out int) {
	t.Helper()
	done := out == len(want.text) && want.e == api.OK
	if m.Out() != out || m.Done() != done {
		t.Fatalf("behind %d bytes of %d with the error %d: Out = %d, Done = %t", out, len(want.text), want.e, m.Out(), m.Done())
	}
	if !done {
		want = outcome{}
	}
	if starts := m.Starts(); !slices.Equal(starts, want.starts) {
		t.Fatalf("behind %d bytes: Starts = %v; want %v", out, starts, want.starts)
	}
	if end := m.End(); end != want.end {
		t.Fatalf("behind %d bytes: End = %d; want %d", out, end, want.end)
	}
}

// brief is what fits in a line.
func brief(s string) string {
	const most = 40
	if len(s) <= most {
		return strconv.Quote(s)
	}
	return strconv.Itoa(len(s)) + " bytes " + strconv.Quote(s[:most/2]) + " .. " + strconv.Quote(s[len(s)-most/2:])
}

// noise is n bytes without a pattern, always the same.
func noise(n int) string {
	s := make([]byte, n)
	rand.New(rand.NewSource(int64(n))).Read(s)
	return string(s)
}
