package pack_test

import (
	"compress/flate"
	"io"
	"math/rand"
	"slices"
	"strconv"
	"strings"
	"testing"

	"collimator/api"
	"collimator/bitrow"
	"collimator/block"
	"collimator/inflate"
	"collimator/pack"
)

// lits are the literals of a text.
func lits(text string) []api.Op {
	l := []api.Op{}
	for i := range len(text) {
		l = append(l, api.Op{Lit: text[i]})
	}
	return l
}

func copied(n, dist int) api.Op {
	return api.Op{Len: n, Dist: dist}
}

func stored(text string) pack.Part {
	return pack.Part{Kind: api.Stored, Text: text}
}

// fixed has the literals of a text and, behind them, other ops.
func fixed(text string, behind ...api.Op) pack.Part {
	return pack.Part{Kind: api.Fixed, Ops: append(lits(text), behind...)}
}

// dynamic is the same with codes of all symbols.
func dynamic(text string, behind ...api.Op) pack.Part {
	return pack.Part{Kind: api.Dynamic, Ops: append(lits(text), behind...), Lits: allLits(), Dists: allDists()}
}

func allLits() []int {
	return append(slices.Repeat([]int{8}, 226), slices.Repeat([]int{9}, 60)...)
}

func allDists() []int {
	return append(slices.Repeat([]int{4}, 2), slices.Repeat([]int{5}, 28)...)
}

// modelText is the text of the parts, or the first error, in the order of P11.1.
func modelText(l []pack.Part) (text string, e api.Errno) {
	m := &textModel{}
	defer func() {
		if x := recover(); x != nil {
			text, e = "", x.(api.Errno)
		}
	}()
	failIf(len(l) == 0, api.ErrEmpty)
	for _, p := range l {
		m.part(p)
	}
	return string(m.text), api.OK
}

func failIf(is bool, e api.Errno) {
	if is {
		panic(e)
	}
}

type textModel struct{ text []byte }

func (m *textModel) part(p pack.Part) {
	failIf(p.Kind < 0 || p.Kind > 2, api.ErrArg)
	failIf(p.Kind == 0 && len(p.Text) > 65535, api.ErrArg)
	if p.Kind == 0 {
		m.text = append(m.text, p.Text...)
		failIf(len(m.text) > 1<<24, api.ErrBig)
		return
	}
	for _, op := range p.Ops {
		failIf(op.Len < 0 || op.Len == 1 || op.Len == 2 || op.Len > 258, api.ErrArg)
		failIf(op.Len != 0 && (op.Dist < 1 || op.Dist > 32768), api.ErrArg)
		failIf(op.Len != 0 && op.Dist > len(m.text), api.ErrDist)
		if op.Len == 0 {
			m.put(op.Lit)
		}
		for i := 0; i < op.Len; i++ {
			m.put(m.text[len(m.text)-op.Dist])
		}
	}
}

func (m *textModel) put(b byte) {
	m.text = append(m.text, b)
	failIf(len(m.text) > 1<<24, api.ErrBig)
}

// modelEncode is the blocks of the parts, or the first error, in the order of P11.2.
func modelEncode(l []pack.Part) (s string, e api.Errno) {
	if _, e := modelText(l); e != api.OK {
		return "", e
	}
	m := &bitModel{}
	defer func() {
		if x := recover(); x != nil {
			s, e = "", x.(api.Errno)
		}
	}()
	for i, p := range l {
		m.part(p, i == len(l)-1)
	}
	return m.bytes(), api.OK
}

// bitModel has its bits one by one.
type bitModel struct{ bits []byte }

// put appends a number with the lowest bit first.
func (m *bitModel) put(v, n int) {
	for i := range n {
		m.bits = append(m.bits, byte(v>>i&1))
	}
}

// code appends a number with the highest bit first.
func (m *bitModel) code(v, n int) {
	for i := n - 1; i >= 0; i-- {
		m.put(v>>i&1, 1)
	}
}

func (m *bitModel) align() {
	for len(m.bits)%8 != 0 {
		m.put(0, 1)
	}
}

func (m *bitModel) bytes() string {
	m.align()
	s := make([]byte, len(m.bits)/8)
	for i, bit := range m.bits {
		s[i/8] |= bit << (i % 8)
	}
	return string(s)
}

func (m *bitModel) part(p pack.Part, final bool) {
	e := block.Write(bitrow.Open(), block.Head{Final: final, Kind: p.Kind, Size: len(p.Text), Lits: p.Lits, Dists: p.Dists})
	failIf(e != api.OK, e)
	m.put(map[bool]int{true: 1}[final], 1)
	m.put(p.Kind, 2)
	switch p.Kind {
	case 0:
		m.stored(p.Text)
	case 1:
		fixedLits := slices.Concat(slices.Repeat([]int{8}, 144), slices.Repeat([]int{9}, 112), slices.Repeat([]int{7}, 24), slices.Repeat([]int{8}, 8))
		m.ops(p.Ops, fixedLits, slices.Repeat([]int{5}, 32))
	case 2:
		m.lengths(p.Lits, p.Dists)
		m.ops(p.Ops, p.Lits, p.Dists)
	}
}

func (m *bitModel) stored(text string) {
	m.align()
	m.put(len(text), 16)
	m.put(^len(text), 16)
	for i := range len(text) {
		m.put(int(text[i]), 8)
	}
}

// lengths appends the header of a Dynamic block: with codes of 4 bits for the lengths 0 to 15, the code of a length is the length.
func (m *bitModel) lengths(lits, dists []int) {
	m.put(len(lits)-257, 5)
	m.put(len(dists)-1, 5)
	m.put(15, 4)
	m.put(0, 9)
	for range 16 {
		m.put(4, 3)
	}
	for _, length := range slices.Concat(lits, dists) {
		m.code(length, 4)
	}
}

func (m *bitModel) ops(ops []api.Op, lits, dists []int) {
	litCodes, distCodes := canonical(lits), canonical(dists)
	for _, op := range ops {
		if op.Len == 0 {
			m.symbol(litCodes, lits, int(op.Lit))
			continue
		}
		symbol := lastUpTo(modelLengths(), op.Len)
		m.symbol(litCodes, lits, 257+symbol.number)
		m.put(op.Len-symbol.base, symbol.bits)
		symbol = lastUpTo(modelDists(), op.Dist)
		m.symbol(distCodes, dists, symbol.number)
		m.put(op.Dist-symbol.base, symbol.bits)
	}
	m.symbol(litCodes, lits, 256)
}

func (m *bitModel) symbol(codes, lengths []int, symbol int) {
	failIf(symbol >= len(lengths) || lengths[symbol] == 0, api.ErrArg)
	m.code(codes[symbol], lengths[symbol])
}

// canonical gives the codes by length, and by symbol where the length is the same.
func canonical(lengths []int) []int {
	codes := make([]int, len(lengths))
	next := 0
	for size := 1; size <= 15; size++ {
		next *= 2
		for symbol := range lengths {
			if lengths[symbol] == size {
				codes[symbol] = next
				next++
			}
		}
	}
	return codes
}

// represents is a symbol, counted from the first of its kind on, and the numbers that it represents.
type represents struct{ number, base, bits int }

// modelLengths and modelDists are the tables of RFC 1951, 3.2.5.
func modelLengths() []represents {
	l := []represents{}
	for i, base := range []int{3, 4, 5, 6, 7, 8, 9, 10, 11, 13, 15, 17, 19, 23, 27, 31, 35, 43, 51, 59, 67, 83, 99, 115, 131, 163, 195, 227} {
		l = append(l, represents{i, base, max(0, i/4-1)})
	}
	return append(l, represents{28, 258, 0})
}

func modelDists() []represents {
	l := []represents{}
	for i, base := range []int{1, 2, 3, 4, 5, 7, 9, 13, 17, 25, 33, 49, 65, 97, 129, 193, 257, 385, 513, 769, 1025, 1537, 2049, 3073, 4097, 6145, 8193, 12289, 16385, 24577} {
		l = append(l, represents{i, base, max(0, i/2-1)})
	}
	return l
}

// lastUpTo is the last symbol whose base is not greater than n.
func lastUpTo(l []represents, n int) represents {
	at := len(l) - 1
	for l[at].base > n {
		at--
	}
	return l[at]
}

// modelOps tries each copy at each byte.
func modelOps(s string) []api.Op {
	l := []api.Op{}
	for at := 0; at < len(s); {
		best := api.Op{Lit: s[at]}
		for dist := 1; dist <= 256 && dist <= at; dist++ {
			n := 0
			for n < 258 && at+n < len(s) && s[at+n-dist] == s[at+n] {
				n++
			}
			if n >= 3 && n > best.Len {
				best = copied(n, dist)
			}
		}
		l = append(l, best)
		at += max(1, best.Len)
	}
	return l
}

// check expects of Text and Encode what the models give, and, if there are blocks, that they are decompressed to the text.
func check(t *testing.T, l ...pack.Part) {
	t.Helper()
	text, e := modelText(l)
	checkText(t, l, text, e)
	s, e := modelEncode(l)
	checkEncode(t, l, s, e)
	if e == api.OK {
		checkBlocks(t, s, text, len(l))
	}
}

func checkText(t *testing.T, l []pack.Part, want string, wantE api.Errno) {
	t.Helper()
	if text, e := pack.Text(l); text != want || e != wantE {
		t.Fatalf("Text of %s = %s, %d; want %s, %d", briefParts(l), brief(text), e, brief(want), wantE)
	}
}

func checkEncode(t *testing.T, l []pack.Part, want string, wantE api.Errno) {
	t.Helper()
	if s, e := pack.Encode(l); s != want || e != wantE {
		t.Fatalf("Encode of %s = %s, %d; want %s, %d", briefParts(l), brief(s), e, brief(want), wantE)
	}
}

// otherProgram is kept, because a new one for each small test takes longer than the test.
var otherProgram = flate.NewReader(nil)

// checkBlocks expects that bytes are decompressed to a text, also by another program, with so many blocks, the last of which ends in the last byte.
func checkBlocks(t *testing.T, s, want string, blocks int) {
	t.Helper()
	text, starts, end, e := inflate.All(s, 0, "")
	if text != want || len(starts) != blocks || (end+7)/8 != len(s) || e != api.OK {
		t.Fatalf("%s is decompressed to %s in %d blocks up to bit %d of %d, error %d; want %s", brief(s), brief(text), len(starts), end, 8*len(s), e, brief(want))
	}
	otherProgram.(flate.Resetter).Reset(strings.NewReader(s), nil)
	other, err := io.ReadAll(otherProgram)
	if string(other) != want || err != nil {
		t.Fatalf("another program decompresses %s to %s, %v; want %s", brief(s), brief(string(other)), err, brief(want))
	}
}

// checkBad expects an error of Text, which is also that of Encode.
func checkBad(t *testing.T, want api.Errno, l ...pack.Part) {
	t.Helper()
	if _, e := modelText(l); e != want {
		t.Fatalf("the model of Text has the error %d for %s; want %d", e, briefParts(l), want)
	}
	checkText(t, l, "", want)
	checkEncode(t, l, "", want)
}

// checkUnwritable expects an error of Encode, but none of Text.
func checkUnwritable(t *testing.T, want api.Errno, l ...pack.Part) {
	t.Helper()
	if _, e := modelText(l); e != api.OK {
		t.Fatalf("the model of Text has the error %d for %s", e, briefParts(l))
	}
	if _, e := modelEncode(l); e != want {
		t.Fatalf("the model of Encode has the error %d for %s; want %d", e, briefParts(l), want)
	}
	check(t, l...)
}

// checkOps expects these ops of a text.
func checkOps(t *testing.T, s string, want ...api.Op) {
	t.Helper()
	if l := pack.Ops(s); !slices.Equal(l, want) {
		t.Fatalf("Ops of %s = %v; want %v", brief(s), l, want)
	}
}

// checkSplit expects the parts of these pieces.
func checkSplit(t *testing.T, s string, n int, pieces ...string) {
	t.Helper()
	l := pack.Split(s, n)
	if len(l) != len(pieces) {
		t.Fatalf("Split of %s, %d has %d parts; want %d", brief(s), n, len(l), len(pieces))
	}
	for i, piece := range pieces {
		want := stored(piece)
		if i%2 == 1 {
			want = pack.Part{Kind: api.Fixed, Ops: modelOps(piece)}
		}
		if !equalParts(l[i], want) {
			t.Fatalf("Split of %s, %d has the part %d: %s; want %s", brief(s), n, i, briefParts(l[i:i+1]), briefParts([]pack.Part{want}))
		}
	}
}

func equalParts(p, q pack.Part) bool {
	return p.Kind == q.Kind && p.Text == q.Text && slices.Equal(p.Ops, q.Ops) && slices.Equal(p.Lits, q.Lits) && slices.Equal(p.Dists, q.Dists)
}

// brief is what fits in a line.
func brief(s string) string {
	const most = 40
	if len(s) <= most {
		return strconv.Quote(s)
	}
	return strconv.Itoa(len(s)) + " bytes " + strconv.Quote(s[:most/2]) + " .. " + strconv.Quote(s[len(s)-most/2:])
}

func briefParts(l []pack.Part) string {
	out := []string{}
	for _, p := range l {
		out = append(out, "{kind "+strconv.Itoa(p.Kind)+", "+brief(p.Text)+", "+strconv.Itoa(len(p.Ops))+" ops, "+strconv.Itoa(len(p.Lits))+" and "+strconv.Itoa(len(p.Dists))+" lengths}")
	}
	if len(out) > 5 {
		out = append(out[:5], strconv.Itoa(len(out)-5)+" more")
	}
	return strings.Join(out, ", ")
}

// noise is n bytes without a pattern, always the same.
func noise(n int) string {
	s := make([]byte, n)
	rand.New(rand.NewSource(int64(n))).Read(s)
	return string(s)
}
