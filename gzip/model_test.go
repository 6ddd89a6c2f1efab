package gzip_test

import (
	"encoding/binary"
	"hash/crc32"
	"math/rand"
	"slices"
	"strconv"
	"strings"
	"testing"

	"collimator/api"
	"collimator/blame"
	"collimator/gzhead"
	"collimator/gzip"
	"collimator/inflate"
	"collimator/pack"
)

// start is the smallest header, that of {Os 255}.
const start = "\x1f\x8b\x08\x00\x00\x00\x00\x00\x00\xff"

// bits packs bits that are written as 0 and 1, in the order in which they are read. Blanks are left out; the last byte is filled with 0.
func bits(row string) string {
	row = strings.ReplaceAll(row, " ", "")
	b := make([]byte, (len(row)+7)/8)
	for i := range row {
		b[i/8] |= (row[i] - '0') << (i % 8)
	}
	return string(b)
}

// row is the inverse of bits.
func row(s string) string {
	var b strings.Builder
	for i := range 8 * len(s) {
		b.WriteByte('0' + s[i/8]>>(i%8)&1)
	}
	return b.String()
}

// tail is what stands behind the blocks of a text.
func tail(text string) string {
	b := binary.LittleEndian.AppendUint32(nil, crc32.ChecksumIEEE([]byte(text)))
	return string(binary.LittleEndian.AppendUint32(b, uint32(len(text))))
}

// at is the text of one link of a blame.
func at(name string, position int) string {
	return name + " at " + strconv.Itoa(position)
}

// formAt is the text of a blame for an error of decompression.
func formAt(from int, name string, position int) string {
	return at("form", from) + ": " + at(name, position)
}

// modelParse takes the archive apart from its beginning on; it ends by a panic with the first error. Headers and blocks are left to their own packages.
func modelParse(s string) (x gzip.Info, say string) {
	defer func() {
		if r := recover(); r != nil {
			x, say = gzip.Info{}, r.(string)
		}
	}()
	mustBe(len(s) <= 16777216, "big at 16777216")
	head, from, e := gzhead.Parse(s, 0)
	mustBe(e == api.OK, at(blame.Name(e), 0))
	text, starts, end, e := inflate.All(s, from*8, "")
	if e != api.OK {
		panic(formAt(from, blame.Name(e), bytesBeforeError(s, from*8)))
	}
	behind := end / 8
	if end%8 > 0 {
		behind++
	}
	rest := []byte(s[behind:])
	mustBe(len(rest) >= 8, at("short", len(s)))
	mustBe(binary.LittleEndian.Uint32(rest) == crc32.ChecksumIEEE([]byte(text)), at("sum", behind))
	mustBe(binary.LittleEndian.Uint32(rest[4:]) == uint32(len(text)), at("size", behind))
	mustBe(len(rest) == 8, at("more", behind+8))
	return gzip.Info{Head: head, From: from * 8, End: end, Starts: starts, Text: text}, ""
}

func mustBe(ok bool, say string) {
	if !ok {
		panic(say)
	}
}

// bytesBeforeError counts the bytes one by one.
func bytesBeforeError(s string, bit int) int {
	m, _ := inflate.New(s, bit, "")
	for n := 0; ; n++ {
		if _, e := m.Step(1); e != api.OK {
			return n
		}
	}
}

// brief writes bytes out, but for the middle of many.
func brief(s string) string {
	if len(s) <= 100 {
		return strconv.Quote(s)
	}
	return strconv.Quote(s[:60]) + ".." + strconv.Quote(s[len(s)-20:]) + " of " + strconv.Itoa(len(s))
}

func isSame(x, y gzip.Info) bool {
	return x.Head == y.Head && x.From == y.From && x.End == y.End && slices.Equal(x.Starts, y.Starts) && x.Text == y.Text
}

// checkParse expects the contents of an archive and the zero Blame.
func checkParse(t *testing.T, s string, want gzip.Info) {
	t.Helper()
	x, b := gzip.Parse(s)
	if b != (blame.Blame{}) || b.Code() != api.OK || b.Deep() != 0 {
		t.Fatalf("Parse(%s): %q", brief(s), b.Say())
	}
	if !isSame(x, want) {
		x.Text, want.Text = brief(x.Text), brief(want.Text)
		t.Fatalf("Parse(%s) = %+v; want %+v", brief(s), x, want)
	}
}

// checkError expects the zero Info and a blame of which each link is told.
func checkError(t *testing.T, s, say string) {
	t.Helper()
	x, b := gzip.Parse(s)
	if b.Say() != say {
		t.Fatalf("Parse(%s): %q; want %q", brief(s), b.Say(), say)
	}
	if !isSame(x, gzip.Info{}) {
		t.Fatalf("Parse(%s): %q with %+v", brief(s), say, x)
	}
}

// checkModel expects what the model finds.
func checkModel(t *testing.T, s string) {
	t.Helper()
	if want, say := modelParse(s); say != "" {
		checkError(t, s, say)
	} else {
		checkParse(t, s, want)
	}
}

// checkNotBuilt expects an error of Build, and no bytes with it.
func checkNotBuilt(t *testing.T, want api.Errno, h api.Head, l ...pack.Part) {
	t.Helper()
	if s, e := gzip.Build(h, l); s != "" || e != want {
		t.Fatalf("Build(%+v, %d parts) = %s, %d; want the error %d", h, len(l), brief(s), e, want)
	}
}

// build returns an archive that can be built.
func build(t *testing.T, h api.Head, l ...pack.Part) string {
	t.Helper()
	s, e := gzip.Build(h, l)
	if e != api.OK {
		t.Fatalf("Build(%+v, %d parts): %d", h, len(l), e)
	}
	return s
}

// head is the encoding of a valid header.
func head(t *testing.T, h api.Head) string {
	t.Helper()
	s, e := gzhead.Build(h)
	if e != api.OK {
		t.Fatalf("the header %+v: %d", h, e)
	}
	return s
}

// stored, fixed and dynamic are parts of a text: of the last two, each byte is a literal, and dynamic has a code for each symbol.
func stored(text string) pack.Part {
	return pack.Part{Kind: api.Stored, Text: text}
}

func fixed(text string, copies ...api.Op) pack.Part {
	p := pack.Part{Kind: api.Fixed}
	for _, b := range []byte(text) {
		p.Ops = append(p.Ops, api.Op{Lit: b})
	}
	p.Ops = append(p.Ops, copies...)
	return p
}

func dynamic(text string, copies ...api.Op) pack.Part {
	p := fixed(text, copies...)
	p.Kind = api.Dynamic
	p.Lits = slices.Concat(slices.Repeat([]int{8}, 226), slices.Repeat([]int{9}, 60))
	p.Dists = slices.Concat(slices.Repeat([]int{4}, 2), slices.Repeat([]int{5}, 28))
	return p
}

func repeat(n, dist int) api.Op {
	return api.Op{Len: n, Dist: dist}
}

// heads are headers with each field, alone and together.
func heads() []api.Head {
	return []api.Head{
		{},
		{Os: 255},
		{Time: 1<<32 - 1},
		{Level: 2},
		{Text: true},
		{Sum: true},
		{Flags: 4, Extra: "x\x00y"},
		{Flags: 8, Name: "name"},
		{Flags: 16, Note: "a note"},
		{Flags: 28},
		{Time: 0x04030201, Level: 4, Os: 3, Text: true, Sum: true, Flags: 28, Extra: "extra", Name: "name", Note: "note"},
	}
}

// someHead is a valid header.
func someHead(source *rand.Rand) api.Head {
	h := heads()[source.Intn(len(heads()))]
	h.Time, h.Level, h.Os = source.Intn(1<<32), source.Intn(256), source.Intn(256)
	h.Text, h.Sum = source.Intn(2) == 0, source.Intn(2) == 0
	return h
}

// someText has words, or bytes of all kinds.
func someText(source *rand.Rand, most int) string {
	b := make([]byte, source.Intn(most+1))
	kinds := []int{1, 3, 256}[source.Intn(3)]
	for i := range b {
		b[i] = 'a' + byte(source.Intn(kinds))
	}
	return string(b)
}

// someParts are parts of all kinds, and the text in front of each of them, with the whole text as the last one.
func someParts(source *rand.Rand) ([]pack.Part, []string) {
	text := ""
	l, before := []pack.Part{}, []string{}
	for range 1 + source.Intn(6) {
		before = append(before, text)
		piece := someText(source, 200)
		switch source.Intn(4) {
		case 0:
			l = append(l, stored(piece))
		case 1:
			l = append(l, fixed(piece))
		case 2:
			l = append(l, dynamic(piece))
		case 3:
			l = append(l, pack.Part{Kind: api.Fixed, Ops: pack.Ops(piece)})
		}
		text += piece
		if p := &l[len(l)-1]; p.Kind != api.Stored && len(text) >= 2 {
			p.Ops = append(p.Ops, repeat(5, 2))
			last := text[len(text)-2:]
			text += (last + last + last)[:5]
		}
	}
	return l, append(before, text)
}
