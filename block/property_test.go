package block_test

import (
	"bytes"
	"compress/flate"
	"io"
	"math/rand"
	"slices"
	"strings"
	"testing"

	"collimator/api"
	"collimator/bitrow"
	"collimator/block"
	"collimator/prefix"
	"collimator/spans"
)

// checkReadBack writes a header behind that many bits, with others behind it, and reads it back.
func checkReadBack(t *testing.T, h block.Head, at int) {
	t.Helper()
	w := writerOf(t, strings.Repeat("1", at))
	if e := block.Write(w, h); e != api.OK {
		t.Fatalf("Write of %v = %d", h, e)
	}
	size := w.Len() - at
	checkRead(t, newReader(t, w.Text(), at), readBack(h), size, api.OK)
	w.Put(1<<17-1, 17)
	checkRead(t, newReader(t, w.Text(), at), readBack(h), size, api.OK)
}

func TestReadBackHeads(t *testing.T) {
	for _, h := range someHeads() {
		for at := range 17 {
			checkReadBack(t, h, at)
		}
	}
}

// Size, Lits and Dists that do not belong to the Kind are zero or those of the Kind.
func TestReadBackOtherFields(t *testing.T) {
	for at := range 17 {
		checkReadBack(t, block.Head{Size: 7, Lits: []int{1, 2}, Dists: []int{99}}, at)
		checkReadBack(t, block.Head{Kind: api.Fixed, Size: 7, Lits: []int{1, 2}, Dists: []int{99}}, at)
		checkReadBack(t, block.Head{Kind: api.Fixed, Size: -7}, at)
		checkReadBack(t, block.Head{Kind: api.Dynamic, Size: -7, Lits: endOnly(260), Dists: []int{0, 1}}, at)
	}
}

func TestReadBackEachSize(t *testing.T) {
	for size := range 65536 {
		checkReadBack(t, block.Head{Final: size%3 == 0, Size: size}, size%17)
	}
}

// Each number of Lits with each number of Dists.
func TestReadBackEachNumber(t *testing.T) {
	source := rand.New(rand.NewSource(1))
	for lits := 257; lits <= 286; lits++ {
		for dists := 1; dists <= 30; dists++ {
			h := block.Head{Kind: api.Dynamic, Lits: someLengths(source, lits, 256), Dists: someLengths(source, dists, -1)}
			checkReadBack(t, h, source.Intn(17))
		}
	}
}

func TestReadBackSomeHeads(t *testing.T) {
	for seed := range int64(100) {
		h := someHead(rand.New(rand.NewSource(seed)))
		for at := range 9 {
			checkReadBack(t, h, at)
		}
		checkWrite(t, h)
	}
}

// Headers of all Kinds follow each other in one writer, with other numbers between them.
func TestReadBackMixed(t *testing.T) {
	source := rand.New(rand.NewSource(2))
	w := bitrow.Open()
	var heads []block.Head
	var extras, ends []int
	for range 400 {
		h := block.Head{Final: source.Intn(2) == 0, Kind: source.Intn(3), Size: source.Intn(65536)}
		if h.Kind == api.Dynamic {
			h = someHead(source)
		}
		if e := block.Write(w, h); e != api.OK {
			t.Fatalf("Write of %v = %d", h, e)
		}
		heads, extras, ends = append(heads, h), append(extras, source.Intn(32)), append(ends, w.Len())
		w.Put(extras[len(extras)-1], 5)
	}
	r := newReader(t, w.Text(), 0)
	for i, h := range heads {
		checkRead(t, r, readBack(h), ends[i]-r.At(), api.OK)
		if v, e := r.Bits(5); v != extras[i] || e != api.OK {
			t.Fatalf("behind header %d: %d, %d; want %d", i, v, e, extras[i])
		}
	}
}

// Read agrees with the model on headers with any repetitions and any code length code.
func TestReadSomeHeaders(t *testing.T) {
	for seed := range int64(400) {
		source := rand.New(rand.NewSource(seed))
		h := someHead(source)
		row := someDynamic(source, h).row()
		at := source.Intn(17)
		s := packed(strings.Repeat("0", at) + row + strings.Repeat("1", 20))
		checkRead(t, newReader(t, s, at), h, len(row), api.OK)
		if e := checkModel(t, s, at); e != api.OK {
			t.Fatalf("the model reads %s as %d", row, e)
		}
		for range 20 {
			cut := source.Intn(len(row))
			checkRead(t, endingIn(t, row[:cut]), block.Head{}, 0, api.ErrShort)
		}
	}
}

// Read agrees with the model on headers with faults, of which each error must occur.
func TestReadFaults(t *testing.T) {
	found := map[api.Errno]int{}
	for seed := range int64(3000) {
		source := rand.New(rand.NewSource(seed))
		row := []byte(someDynamic(source, someHead(source)).row())
		for range 1 + source.Intn(3) {
			at := source.Intn(len(row))
			if source.Intn(2) == 0 {
				at = source.Intn(80) // ahead of the sequence
			}
			row[at] = '0' + 1 - (row[at] - '0')
		}
		s := packed(string(row))
		found[checkModel(t, s, 0)]++
		found[checkModel(t, s+"\x55\xaa\xff\x00\xff", 0)]++
	}
	for _, e := range []api.Errno{api.OK, api.ErrShort, api.ErrBlock, api.ErrSize, api.ErrBig, api.ErrForm, api.ErrNone, api.ErrOver, api.ErrUnder} {
		if found[e] == 0 {
			t.Errorf("the error %d did not occur: %v", e, found)
		}
	}
}

// Read agrees with the model on bytes without a pattern, and on sequences without one behind codes that fit.
func TestReadNoise(t *testing.T) {
	source := rand.New(rand.NewSource(3))
	for range 3000 {
		s := make([]byte, source.Intn(60))
		source.Read(s)
		for at := range min(9, 8*len(s)+1) {
			checkModel(t, string(s), at)
		}
	}
	for range 3000 {
		s := make([]byte, source.Intn(300))
		source.Read(s)
		lits, dists := 257+source.Intn(30), 1+source.Intn(30)
		d := dynamic{lits: lits, dists: dists, inner: evenInner(), told: 19}
		if source.Intn(2) == 0 {
			d.inner = someInner(source, plain([]int{0, 1, 16, 17, 18}))
		}
		checkModel(t, packed(d.start()+rowOf(string(s))), 0)
	}
}

// inflated reads the blocks of a stream by their headers, and counts these by their Kind.
func inflated(t *testing.T, s string) (string, [3]int) {
	t.Helper()
	var kinds [3]int
	var text []byte
	r := newReader(t, s, 0)
	for {
		h, e := block.Read(r)
		if e != api.OK {
			t.Fatalf("the header at %d: %d", r.At(), e)
		}
		kinds[h.Kind]++
		if h.Kind == api.Stored {
			piece, e := r.Bytes(h.Size)
			if e != api.OK {
				t.Fatalf("%d bytes at %d: %d", h.Size, r.At(), e)
			}
			text = append(text, piece...)
		} else {
			text = inflatedBlock(t, r, h, text)
		}
		if h.Final {
			return string(text), kinds
		}
	}
}

// inflatedBlock appends the text of a Fixed or Dynamic block.
func inflatedBlock(t *testing.T, r *bitrow.Reader, h block.Head, text []byte) []byte {
	t.Helper()
	lits, litsE := prefix.New(h.Lits)
	dists, distsE := prefix.New(h.Dists)
	if litsE != api.OK || distsE != api.OK {
		t.Fatalf("the codes of %v: %d, %d", h, litsE, distsE)
	}
	number := func(of func(int) (int, int, bool), symbol int) int {
		base, bits, ok := of(symbol)
		value, e := r.Bits(bits)
		if !ok || e != api.OK {
			t.Fatalf("the symbol %d at %d: %t, %d", symbol, r.At(), ok, e)
		}
		return base + value
	}
	for {
		symbol, e := lits.Read(r)
		if e != api.OK {
			t.Fatalf("a symbol at %d: %d", r.At(), e)
		}
		switch {
		case symbol < 256:
			text = append(text, byte(symbol))
			continue
		case symbol == 256:
			return text
		}
		size := number(spans.Length, symbol)
		symbol, e = dists.Read(r)
		if e != api.OK {
			t.Fatalf("a distance at %d: %d", r.At(), e)
		}
		dist := number(spans.Dist, symbol)
		for range size {
			text = append(text, text[len(text)-dist])
		}
	}
}

// The headers of another program's blocks are read as that program means them.
func TestReadOthersBlocks(t *testing.T) {
	source := rand.New(rand.NewSource(4))
	var total [3]int
	for size := 0; size < 60000; size = size*3/2 + 1 {
		noise := make([]byte, size)
		source.Read(noise)
		words := make([]byte, 0, size)
		for len(words) < size {
			words = append(words, []string{"let ", "there ", "be ", "light", ", and ", "\n"}[source.Intn(6)]...)
		}
		skewed := make([]byte, size)
		for i := range skewed {
			skewed[i] = byte(source.ExpFloat64() * 12)
		}
		for _, text := range [][]byte{noise, words, skewed, bytes.Repeat([]byte("a"), size)} {
			for _, level := range []int{flate.HuffmanOnly, 0, 1, 6, 9} {
				var out bytes.Buffer
				w, _ := flate.NewWriter(&out, level)
				w.Write(text)
				w.Close()
				got, kinds := inflated(t, out.String())
				if got != string(text) {
					t.Fatalf("%d bytes at level %d are read as %d", len(text), level, len(got))
				}
				for kind, count := range kinds {
					total[kind] += count
				}
			}
		}
	}
	for kind, count := range total {
		if count == 0 {
			t.Errorf("no block of Kind %d", kind)
		}
	}
}

// inflatedByOthers is the text that another program reads.
func inflatedByOthers(t *testing.T, s string) string {
	t.Helper()
	text, err := io.ReadAll(flate.NewReader(strings.NewReader(s)))
	if err != nil {
		t.Fatalf("another program can't read %q: %v", s, err)
	}
	return string(text)
}

// Another program reads the headers that are written as they are meant.
func TestWriteForOthers(t *testing.T) {
	for seed := range int64(200) {
		source := rand.New(rand.NewSource(seed))
		w := bitrow.Open()
		var text []byte
		for left := 1 + source.Intn(6); left > 0; left-- {
			h := block.Head{Kind: source.Intn(3), Size: source.Intn(300)}
			if h.Kind == api.Dynamic {
				h = someHead(source)
			}
			h.Final = left == 1
			if e := block.Write(w, h); e != api.OK {
				t.Fatalf("Write of %v = %d", h, e)
			}
			text = append(text, writeBody(source, w, readBack(h))...)
		}
		if got := inflatedByOthers(t, w.Text()); got != string(text) {
			t.Fatalf("%q is read as %q", text, got)
		}
	}
}

// writeBody writes any text that the block of a header can have, and returns it.
func writeBody(source *rand.Rand, w *bitrow.Writer, h block.Head) []byte {
	var text []byte
	if h.Kind == api.Stored {
		text = make([]byte, h.Size)
		source.Read(text)
		w.Bytes(string(text))
		return text
	}
	for range 50 {
		if c := source.Intn(256); h.Lits[c] > 0 {
			prefix.Write(w, h.Lits, c)
			text = append(text, byte(c))
		}
	}
	prefix.Write(w, h.Lits, 256)
	return text
}

// A header that is read is one for another program too.
func TestReadAcceptsNoMoreThanOthers(t *testing.T) {
	accepted := 0
	for seed := range int64(2000) {
		source := rand.New(rand.NewSource(seed))
		row := []byte(someDynamic(source, someHead(source)).row())
		at := source.Intn(len(row))
		row[at] = '0' + 1 - (row[at] - '0')
		row[0] = '1'
		r := newReader(t, packed(string(row)+strings.Repeat("0", 64)), 0)
		h, e := block.Read(r)
		if e != api.OK || h.Kind == api.Stored {
			continue
		}
		accepted++
		w := writerOf(t, rowOf(packed(string(row) + strings.Repeat("0", 64)))[:r.At()])
		text := writeBody(source, w, h)
		if got := inflatedByOthers(t, w.Text()); got != string(text) {
			t.Fatalf("%q is read as %q", text, got)
		}
	}
	if accepted == 0 {
		t.Errorf("no header was accepted")
	}
}

func FuzzRead(f *testing.F) {
	f.Add("\x03", 0)
	f.Add("\x01\x05\x00\xfa\xff", 0)
	f.Add("\xf8\x05\x01\xfa\xfe", 3)
	f.Add("\x07", 0)
	f.Add("\xf5\x00\x00\x00\x00", 0)
	for seed := range int64(20) {
		source := rand.New(rand.NewSource(seed))
		at := source.Intn(9)
		f.Add(packed(strings.Repeat("1", at)+someDynamic(source, someHead(source)).row()), at)
	}
	f.Fuzz(func(t *testing.T, s string, at int) {
		if _, e := bitrow.New(s, at); e != api.OK {
			return
		}
		if checkModel(t, s, at) != api.OK {
			return
		}
		// What was read can be written, and is read back.
		h, _ := block.Read(newReader(t, s, at))
		checkReadBack(t, h, at%17)
	})
}

func FuzzWrite(f *testing.F) {
	f.Add(true, 0, 5, []byte{}, []byte{}, 0)
	f.Add(false, 1, 5, []byte{1}, []byte{}, 3)
	f.Add(true, 2, 0, append(make([]byte, 256), 1), []byte{1, 1}, 7)
	f.Fuzz(func(t *testing.T, final bool, kind, size int, lits, dists []byte, at int) {
		lengths := func(sizes []byte) []int {
			var l []int
			for _, size := range sizes {
				l = append(l, int(int8(size)))
			}
			return l
		}
		h := block.Head{Final: final, Kind: kind, Size: size, Lits: lengths(lits), Dists: lengths(dists)}
		before := block.Head{Final: final, Kind: kind, Size: size, Lits: slices.Clone(h.Lits), Dists: slices.Clone(h.Dists)}
		e := block.Write(bitrow.Open(), h)
		if !sameHead(h, before) {
			t.Fatalf("%v became %v", before, h)
		}
		if e != api.OK {
			checkNoWrite(t, h, e)
			return
		}
		checkWrite(t, h)
		checkReadBack(t, h, (at%17+17)%17)
	})
}
