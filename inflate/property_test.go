package inflate_test

import (
	"bytes"
	"compress/flate"
	"io"
	"math/rand"
	"strings"
	"testing"

	"collimator/api"
	"collimator/block"
	"collimator/inflate"
)

// someLengths are the lengths of a complete code for some of count symbols, of which one is needed.
func someLengths(source *rand.Rand, count, needed int) []int {
	sizes := []int{1, 1}
	for most := 2 + source.Intn(count-1); len(sizes) < most; {
		if at := source.Intn(len(sizes)); sizes[at] < 15 {
			sizes[at]++
			sizes = append(sizes, sizes[at])
		}
	}
	l := make([]int, count)
	symbols := source.Perm(count)[:len(sizes)]
	for i, symbol := range symbols {
		l[symbol] = sizes[i]
	}
	if l[needed] == 0 {
		l[needed], l[symbols[0]] = l[symbols[0]], 0
	}
	return l
}

func someDynamic(source *rand.Rand, final bool) block.Head {
	lits, dists := 257+source.Intn(30), 2+source.Intn(29)
	return block.Head{Final: final, Kind: api.Dynamic, Lits: someLengths(source, lits, 256), Dists: someLengths(source, dists, source.Intn(dists))}
}

// someBlocks writes so many blocks of any Kind.
func someBlocks(source *rand.Rand, w *writer, count int) *writer {
	w.t.Helper()
	for left := count; left > 0; left-- {
		switch source.Intn(3) {
		case 0:
			w.stored(left == 1, noise(source.Intn(100)))
		case 1:
			someSymbols(source, w.fixed(left == 1))
		case 2:
			someSymbols(source, w.begin(someDynamic(source, left == 1)))
		}
	}
	return w
}

// someSymbols writes bytes and copies, as far as there are codes, and the end of the block.
func someSymbols(source *rand.Rand, w *writer) {
	w.t.Helper()
	for range source.Intn(60) {
		symbol := source.Intn(min(286, len(w.lits.lengths)))
		if source.Intn(2) == 0 {
			symbol = min(257+source.Intn(29), symbol+257)
		}
		switch {
		case symbol >= len(w.lits.lengths) || w.lits.lengths[symbol] == 0 || symbol == 256:
		case symbol < 256:
			w.lit(string([]byte{byte(symbol)}))
		default:
			someCopy(source, w, symbol)
		}
	}
	w.end()
}

// someCopy writes a copy with this length symbol, if there is a distance for it.
func someCopy(source *rand.Rand, w *writer, symbol int) {
	w.t.Helper()
	length := modelLengths()[symbol-257]
	dist := modelDists()[source.Intn(min(30, len(w.dists.lengths)))]
	n, far := length.base+source.Intn(1<<length.bits), dist.base+source.Intn(1<<dist.bits)
	if w.dists.lengths[dist.number] > 0 && far <= len(w.known) {
		w.length(symbol, n-length.base, length.bits).dist(dist.number, far-dist.base, dist.bits).produce(n, far)
	}
}

// somePreset is of any size, also longer than the content of a window.
func somePreset(source *rand.Rand) string {
	return noise([]int{0, 0, 1, 10, 300, 5000, 32767, 32768, 40000}[source.Intn(9)])
}

// someSizes are sizes of steps.
func someSizes(source *rand.Rand) []int {
	sizes := make([]int, 1+source.Intn(50))
	for i := range sizes {
		sizes[i] = 1 + source.Intn(1+source.Intn(1000))
	}
	return sizes
}

// The concatenated results of Step are the text, whatever the sizes are.
func TestSomeSteps(t *testing.T) {
	for seed := range int64(200) {
		source := rand.New(rand.NewSource(seed))
		w := someBlocks(source, write(t, source.Intn(17), somePreset(source)), 1+source.Intn(6))
		s := w.bits.Text()
		check(t, s, w.from, w.preset, w.good())
		for range 10 {
			checkSteps(t, s, w.from, w.preset, w.good(), someSizes(source)...)
		}
		for range 10 {
			cut := w.from/8 + 1 + source.Intn(len(s)-w.from/8)
			want := w.good()
			if cut < len(s) {
				want = w.cut(8 * cut)
			}
			checkAll(t, s[:cut], w.from, w.preset, want)
			checkSteps(t, s[:cut], w.from, w.preset, want, someSizes(source)...)
		}
	}
}

// checkRestarts starts decompression at each block, with the text before it, or with as much of it as the content of a window has.
func checkRestarts(t *testing.T, s, preset string, want outcome, sizes ...int) {
	t.Helper()
	for i, start := range want.starts {
		before := preset + want.text[:start.Out]
		rest := outcome{text: want.text[start.Out:], end: want.end}
		for _, later := range want.starts[i:] {
			rest.starts = append(rest.starts, inflate.Start{Bit: later.Bit, Out: later.Out - start.Out})
		}
		for _, before := range []string{before, before[max(0, len(before)-32768):]} {
			checkAll(t, s, start.Bit, before, rest)
			checkSteps(t, s, start.Bit, before, rest, sizes...)
		}
	}
}

func TestRestarts(t *testing.T) {
	for seed := range int64(200) {
		source := rand.New(rand.NewSource(seed))
		w := someBlocks(source, write(t, source.Intn(17), somePreset(source)), 1+source.Intn(10))
		checkRestarts(t, w.bits.Text(), w.preset, w.good(), someSizes(source)...)
	}
	mixedBlocks := mixed(write(t, 5, "preset"))
	checkRestarts(t, mixedBlocks.bits.Text(), "preset", mixedBlocks.good(), 1)
}

// Machines are copied at any place of any blocks.
func TestSomeCopies(t *testing.T) {
	for seed := range int64(30) {
		source := rand.New(rand.NewSource(seed))
		w := someBlocks(source, write(t, source.Intn(17), noise(source.Intn(100))), 1+source.Intn(6))
		checkCopies(t, w.bits.Text(), w.from, w.preset, w.good(), 1+len(w.text())/(1+source.Intn(20)))
	}
}

// checkModel expects what the model gives, in one go and in steps.
func checkModel(t *testing.T, s string, bit int, preset string, sizes ...int) outcome {
	t.Helper()
	want := modelOf(t, s, bit, preset)
	checkAll(t, s, bit, preset, want)
	checkSteps(t, s, bit, preset, want, sizes...)
	return want
}

// isWhole reports whether another program decompresses the bytes from the first one on, and to what.
func isWhole(s, preset string) (string, bool) {
	text, err := io.ReadAll(flate.NewReaderDict(strings.NewReader(s), []byte(preset)))
	return string(text), err == nil
}

// Of blocks with some bits inverted, the model gives each error that is likely, and there is a text if and only if another program finds one.
func TestFaults(t *testing.T) {
	found := map[api.Errno]int{}
	for seed := range int64(4000) {
		source := rand.New(rand.NewSource(seed))
		w := someBlocks(source, write(t, 0, noise(source.Intn(50))), 1+source.Intn(4))
		s := []byte(w.bits.Text())
		for range 1 + source.Intn(3) {
			s[source.Intn(min(len(s), 1+source.Intn(1000)))] ^= 1 << source.Intn(8)
		}
		want := checkModel(t, string(s), 0, w.preset, someSizes(source)...)
		found[want.e]++
		if text, ok := isWhole(string(s), w.preset); ok != (want.e == api.OK) || ok && text != want.text {
			t.Fatalf("%q: %d and %s; another program: %t and %s", s, want.e, brief(want.text), ok, brief(text))
		}
	}
	for _, e := range []api.Errno{api.OK, api.ErrShort, api.ErrBlock, api.ErrSize, api.ErrBig, api.ErrOver, api.ErrUnder, api.ErrCode, api.ErrDist} {
		if found[e] == 0 {
			t.Errorf("the error %d did not occur: %v", e, found)
		}
	}
}

// Bytes without a pattern, from any bit on.
func TestNoise(t *testing.T) {
	for seed := range int64(3000) {
		source := rand.New(rand.NewSource(seed))
		s := make([]byte, source.Intn(100))
		source.Read(s)
		for bit := range min(9, 8*len(s)+1) {
			checkModel(t, string(s), bit, noise(source.Intn(5)), someSizes(source)...)
		}
	}
}

// someText has words, bytes without a pattern, few bytes, or one byte.
func someText(source *rand.Rand, kind, size int) string {
	var text []byte
	for len(text) < size {
		switch kind {
		case 0:
			text = append(text, []string{"let ", "there ", "be ", "light", ", and ", "\n"}[source.Intn(6)]...)
		case 1:
			text = append(text, byte(source.Intn(256)))
		case 2:
			text = append(text, byte(source.ExpFloat64()*12))
		case 3:
			text = append(text, 'a')
		}
	}
	return string(text[:size])
}

// compressed is what another program makes of a text, with a flush at each third of it.
func compressed(text, preset string, level int) string {
	var out bytes.Buffer
	w, _ := flate.NewWriterDict(&out, level, []byte(preset))
	for i := range 3 {
		w.Write([]byte(text[len(text)*i/3 : len(text)*(i+1)/3]))
		w.Flush()
	}
	w.Close()
	return out.String()
}

// What another program has compressed is decompressed, also from each block on.
func TestOthersBlocks(t *testing.T) {
	for size := 0; size < 200000; size = size*4 + 1 {
		for kind := range 4 {
			source := rand.New(rand.NewSource(int64(size)))
			preset := someText(source, kind, min(size, 50000))
			text := someText(source, kind, size)
			for _, level := range []int{flate.HuffmanOnly, 0, 1, 9} {
				checkOthers(t, compressed(text, "", level), "", text)
				checkOthers(t, compressed(text, preset, level), preset, text)
			}
		}
	}
}

func checkOthers(t *testing.T, s, preset, text string) {
	t.Helper()
	want := modelOf(t, s, 0, preset)
	if want.text != text || want.e != api.OK || want.end <= 8*len(s)-8 || want.end > 8*len(s) {
		t.Fatalf("the model reads %d bytes as %d, with the end %d and the error %d", len(s), len(want.text), want.end, want.e)
	}
	checkAll(t, s+"behind", 0, preset, want)
	checkSteps(t, s, 0, preset, want, 1+len(text)/10000)
	checkSteps(t, s, 0, preset, want, 1000, 40000)
	checkRestarts(t, s, preset, want, 50000)
}

func FuzzInflate(f *testing.F) {
	f.Add("\x4b\x04\x00", 0, "", 1, 2)
	f.Add("\x01\x02\x00\xfd\xffab", 0, "", 1, 1)
	f.Add("\x00\x01\x00\xfe\xffx\x01\x01\x00\xfe\xffy", 48, "x", 3, 1)
	f.Add("\x07", 0, "preset", 1, 1)
	f.Fuzz(func(t *testing.T, s string, bit int, preset string, first, second int) {
		if bit < 0 || bit > 8*len(s) {
			checkAll(t, s, bit, preset, outcome{e: api.ErrArg})
			return
		}
		want := checkModel(t, s, bit, preset, first, second)
		if len(want.text) < 1000 && max(first, second) > 0 {
			checkCopies(t, s, bit, preset, want, max(first, second, 1+len(want.text)/20))
		}
		checkRestarts(t, s, preset, want, first, second)
	})
}
