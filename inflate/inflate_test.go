package inflate_test

import (
	"math"
	"testing"

	"collimator/api"
	"collimator/block"
	"collimator/inflate"
)

// one is the outcome of one block.
func one(text string, bit, end int) outcome {
	return outcome{text: text, starts: []inflate.Start{{Bit: bit}}, end: end}
}

// The chapter's examples.
func TestExamples(t *testing.T) {
	check(t, "\x4b\x04\x00", 0, "", one("a", 0, 18))
	check(t, "\x01\x02\x00\xfd\xffab", 0, "", one("ab", 0, 56))
	check(t, "\x07", 0, "", outcome{e: api.ErrBlock})
}

// Machines start at each bit that there is, and at the end, where a header is missing.
func TestNewPositions(t *testing.T) {
	for _, s := range []string{"", "\x00", "\x4b\x04\x00", "\x4b\x04\x00\x4b\x04\x00"} {
		for bit := range 8*len(s) + 1 {
			check(t, s, bit, "", modelOf(t, s, bit, ""))
		}
		check(t, s, 8*len(s), "preset", outcome{e: api.ErrShort})
		for _, bit := range []int{-1, -8, math.MinInt, 8*len(s) + 1, 8*len(s) + 8, 1 << 32, math.MaxInt} {
			for _, preset := range []string{"", "preset"} {
				checkAll(t, s, bit, preset, outcome{e: api.ErrArg})
				if m, e := inflate.New(s, bit, preset); m != nil || e != api.ErrArg {
					t.Errorf("New of %q at %d = %p, %d; want ErrArg", s, bit, m, e)
				}
			}
		}
	}
}

// noMachines are a nil machine and ones that the package did not return.
func noMachines(t *testing.T) []*inflate.Machine {
	full := newMachine(t, "\x4b\x04\x00", 0, "")
	empty := newMachine(t, "\x03\x00", 0, "")
	if !empty.Done() {
		t.Fatalf("a machine without a text is not done")
	}
	twin := full.Copy()
	a, b, c := *full, *empty, *twin
	return []*inflate.Machine{nil, {}, new(inflate.Machine), &a, &b, &c}
}

func TestNoMachine(t *testing.T) {
	for i, m := range noMachines(t) {
		for _, n := range []int{1, 2, math.MaxInt, 0, -1, math.MinInt} {
			if s, e := m.Step(n); s != "" || e != api.ErrNil {
				t.Errorf("machine %d: Step(%d) = %q, %d; want ErrNil", i, n, s, e)
			}
			if m.Out() != 0 || m.Done() || len(m.Starts()) != 0 || m.End() != 0 || m.Copy() != nil {
				t.Errorf("machine %d: %d, %t, %v, %d, %p", i, m.Out(), m.Done(), m.Starts(), m.End(), m.Copy())
			}
		}
	}
}

// A struct that was copied does not take part in what the machine does.
func TestNoMachineLeavesTheOther(t *testing.T) {
	w := write(t, 0, "").fixed(true).lit("abc").copy(20, 2).end()
	m := newMachine(t, w.bits.Text(), 0, "")
	checkStep(t, m, w.good(), 0, 5)
	copied := *m
	copied.Step(3)
	copied.Copy()
	checkRest(t, m, w.good(), 5, 4)
}

// eachPosition visits the positions in two bytes.
func eachPosition(visit func(from int)) {
	for from := range 17 {
		visit(from)
	}
}

func TestEmptyTexts(t *testing.T) {
	eachPosition(func(from int) {
		write(t, from, "").stored(true, "").checkGood()
		write(t, from, "").fixed(true).end().checkGood()
		write(t, from, "").dynamic(true).end().checkGood()
		write(t, from, "preset").stored(false, "").fixed(false).end().dynamic(false).end().fixed(false).end().stored(true, "").checkGood()
	})
}

func TestStored(t *testing.T) {
	for _, text := range []string{"", "a", "ab", "\x00\xff", noise(100)} {
		eachPosition(func(from int) {
			write(t, from, "").stored(true, text).checkGood()
			write(t, from, "").stored(false, text).stored(false, "").stored(true, text).checkGood()
		})
	}
	for _, size := range []int{255, 256, 32767, 32768, 32769, 65534, 65535} {
		w := write(t, size%8, "").stored(true, noise(size))
		checkAll(t, w.bits.Text(), w.from, "", w.good())
		checkSteps(t, w.bits.Text(), w.from, "", w.good(), 1)
		checkSteps(t, w.bits.Text(), w.from, "", w.good(), 1000, 65535)
	}
}

// The bits up to the byte boundary are ignored.
func TestStoredPadding(t *testing.T) {
	check(t, "\xf9\x02\x00\xfd\xffab", 0, "", one("ab", 0, 56))
	check(t, "\xff\xff\xff\xcf\x02\x00\xfd\xffab", 27, "", one("ab", 27, 80))
}

// checkByteCuts expects of blocks without all their bytes what stands ahead of the missing ones.
func checkByteCuts(t *testing.T, preset string, blocks func(w *writer)) {
	t.Helper()
	eachPosition(func(from int) {
		w := write(t, from, preset)
		blocks(w)
		s := w.bits.Text()
		for size := (from + 7) / 8; 8*size < w.bits.Len(); size++ {
			check(t, s[:size], from, preset, w.cut(8*size))
		}
	})
}

// checkBitCuts expects the same of blocks without all their bits. They are not Stored, so that they may stand anywhere, also where the bits end with a byte.
func checkBitCuts(t *testing.T, preset string, blocks func(w *writer)) {
	t.Helper()
	whole := write(t, 0, preset)
	blocks(whole)
	for bits := range whole.bits.Len() {
		w := write(t, (8-bits%8)%8, preset)
		blocks(w)
		s := w.bits.Text()[:(w.from+bits)/8]
		want := w.cut(8 * len(s))
		checkAll(t, s, w.from, preset, want)
		checkSteps(t, s, w.from, preset, want, 1)
		checkSteps(t, s, w.from, preset, want, 4, 1000)
	}
	whole.checkGood()
}

// Bytes of a Stored block that are missing are ErrShort, behind those that are there.
func TestStoredShort(t *testing.T) {
	checkByteCuts(t, "", func(w *writer) { w.stored(true, "a") })
	checkByteCuts(t, "", func(w *writer) { w.stored(true, "abcdef") })
	checkByteCuts(t, "", func(w *writer) { w.stored(false, "abc").stored(true, "def") })
	checkByteCuts(t, "preset", func(w *writer) { w.stored(false, "").fixed(false).lit("ab").end().stored(true, "cd") })
	checkByteCuts(t, "preset", func(w *writer) { w.stored(false, "a").dynamic(true).copy(10, 3).lit("b").end() })
	w := write(t, 0, "").stored(true, noise(65535))
	for _, missing := range []int{1, 2, 32767, 65534, 65535} {
		s := w.bits.Text()[:5+65535-missing]
		want := outcome{text: noise(65535)[:65535-missing], e: api.ErrShort}
		checkAll(t, s, 0, "", want)
		checkSteps(t, s, 0, "", want, 1<<24)
		checkSteps(t, s, 0, "", want, 10000)
	}
}

// Without a Final block, the next header is missing.
func TestNoFinalBlock(t *testing.T) {
	blocks := []func(w *writer){
		func(w *writer) { w.stored(false, "abc") },
		func(w *writer) { w.stored(false, "") },
		func(w *writer) { w.fixed(false).lit("abc").end().stored(false, "") },
	}
	for _, b := range blocks {
		eachPosition(func(from int) {
			w := write(t, from, "")
			b(w)
			check(t, w.bits.Text(), from, "", w.bad(api.ErrShort))
		})
	}
}

// coded are the Kinds with codes; they are written in the same way.
func coded() []func(w *writer, final bool) *writer {
	return []func(w *writer, final bool) *writer{(*writer).fixed, (*writer).dynamic}
}

// allBytes is each byte once.
func allBytes() string {
	var s [256]byte
	for i := range s {
		s[i] = byte(i)
	}
	return string(s[:])
}

func TestLiterals(t *testing.T) {
	for _, begin := range coded() {
		eachPosition(func(from int) {
			begin(write(t, from, ""), true).lit("a").end().checkGood()
			begin(write(t, from, ""), true).lit(allBytes()).end().checkGood()
		})
	}
}

// Bits that end within a header, a symbol or extra bits are ErrShort; bytes that were complete by then are told.
func TestBitsShort(t *testing.T) {
	for _, begin := range coded() {
		checkBitCuts(t, "", func(w *writer) { begin(w, true).lit("a\xffb").copy(3, 1).lit("c").end() })
		checkBitCuts(t, "", func(w *writer) { begin(w, true).lit("ab").copy(70, 2).copy(20, 60).end() })
		checkBitCuts(t, noise(25000), func(w *writer) { begin(w, true).copy(11, 24999).copy(37, 24576).end() })
		checkBitCuts(t, "p", func(w *writer) { begin(begin(w, false).lit("a").end(), true).copy(12, 2).end() })
	}
}

// Each length, with extra bits at its end and behind it: also 258 as the last number of the symbol 284.
func TestLengths(t *testing.T) {
	for _, begin := range coded() {
		eachPosition(func(from int) {
			w := begin(write(t, from, "xyz"), true)
			for n := 3; n <= 258; n++ {
				w.copy(n, 1+n%3)
				w.lit(allBytes()[n%256 : n%256+n%2])
			}
			w.length(257+27, 31, 5).dist(1, 0, 0).produce(258, 2)
			w.lit("!").end()
			checkAll(t, w.bits.Text(), from, "xyz", w.good())
			checkSteps(t, w.bits.Text(), from, "xyz", w.good(), 1000)
		})
	}
}

func TestDistances(t *testing.T) {
	preset := noise(32768)
	for i, begin := range coded() {
		w := begin(write(t, i, preset), true)
		for dist := 1; dist <= 32768; dist++ {
			w.copy(3+dist%2, dist)
		}
		w.end()
		checkAll(t, w.bits.Text(), i, preset, w.good())
		checkSteps(t, w.bits.Text(), i, preset, w.good(), 10007)
	}
}

// Copies of bytes that the copy itself produces.
func TestOverlaps(t *testing.T) {
	for _, begin := range coded() {
		for dist := 1; dist <= 8; dist++ {
			for n := 3; n <= 20; n++ {
				begin(write(t, n, ""), true).lit("abcdefgh").copy(n, dist).copy(n, dist+1).end().checkGood()
				begin(write(t, n, "stuvwxyz"), true).copy(n, dist).lit("-").copy(2*n, dist).end().checkGood()
			}
		}
	}
	check(t, write(t, 0, "xy").fixed(true).copy(5, 2).end().bits.Text(), 0, "xy", one("xyxyx", 0, 3+7+5+7))
}

// The symbols that represent nothing are told before anything that would follow them.
func TestNoNumbers(t *testing.T) {
	for _, before := range []string{"", "abc"} {
		for _, symbol := range []int{286, 287} {
			eachPosition(func(from int) {
				write(t, from, "preset").fixed(true).lit(before).length(symbol, 0, 0).checkBad(api.ErrCode)
				write(t, from, "preset").fixed(true).lit(before).length(symbol, 0, 0).dist(31, 0, 0).checkBad(api.ErrCode)
			})
		}
		for _, symbol := range []int{30, 31} {
			eachPosition(func(from int) {
				write(t, from, "preset").fixed(true).lit(before).length(257, 0, 0).dist(symbol, 0, 0).checkBad(api.ErrCode)
				write(t, from, "preset").fixed(true).lit(before).length(284, 31, 5).dist(symbol, 0, 0).checkBad(api.ErrCode)
			})
		}
	}
}

// The bits end with the symbol that represents nothing: it is ErrCode all the same.
func TestNoNumbersAtTheEnd(t *testing.T) {
	for from := range 8 {
		for _, symbol := range []int{286, 287} {
			if w := write(t, from, "").fixed(true).length(symbol, 0, 0); w.bits.Len()%8 == 0 {
				check(t, w.bits.Text(), from, "", w.bad(api.ErrCode))
			}
		}
		for _, symbol := range []int{30, 31} {
			if w := write(t, from, "").fixed(true).length(258, 0, 0).dist(symbol, 0, 0); w.bits.Len()%8 == 0 {
				check(t, w.bits.Text(), from, "", w.bad(api.ErrCode))
			}
		}
	}
}

// lone is a block in which few symbols have codes.
func lone(final bool, lits map[int]int, dists ...int) block.Head {
	h := block.Head{Final: final, Kind: api.Dynamic, Lits: make([]int, 286), Dists: dists}
	for symbol, size := range lits {
		h.Lits[symbol] = size
	}
	return h
}

// Bits that are no code are ErrCode, or ErrShort if few are left.
func TestNoCodes(t *testing.T) {
	end := lone(true, map[int]int{256: 1}, 0)
	write(t, 0, "").begin(end).end().checkGood()
	few := lone(true, map[int]int{'a': 2, 256: 2, 257: 1}, 0)
	dist := lone(true, map[int]int{'a': 2, 256: 2, 257: 1}, 0, 1)
	write(t, 3, "pre").begin(dist).lit("a").copy(3, 2).end().checkGood()
	for from := range 8 {
		for left := range 33 {
			e := api.ErrCode
			if left < 15 {
				e = api.ErrShort
			}
			for _, w := range []*writer{
				write(t, from, "pre").begin(end),
				write(t, from, "pre").begin(few).lit("aa").length(257, 0, 0),
				write(t, from, "pre").begin(dist).lit("a").copy(3, 2).length(257, 0, 0),
			} {
				for range left {
					w.put(1, 1)
				}
				if w.bits.Len()%8 == 0 {
					check(t, w.bits.Text(), from, "pre", w.bad(e))
				}
			}
		}
	}
}

// A distance of the whole content is possible, one more is not.
func TestFarthest(t *testing.T) {
	for _, begin := range coded() {
		for _, preset := range []string{"", "x", "xyz", noise(300)} {
			for _, lits := range []string{"", "a", "abcdefg"} {
				checkFarthest(t, begin, preset, lits)
			}
		}
	}
}

// checkFarthest expects copies from the first byte of the content, and ErrDist from beyond it.
func checkFarthest(t *testing.T, begin func(*writer, bool) *writer, preset, lits string) {
	t.Helper()
	for _, n := range []int{3, 10, 258} {
		w := begin(write(t, n, preset), true).lit(lits)
		if len(w.known) > 0 {
			w.copy(n, len(w.known)).end().checkGood()
		}
		for _, more := range []int{1, 2, 1000} {
			w = begin(write(t, n, preset), true).lit(lits)
			tooFar(w, n, len(w.known)+more).checkBad(api.ErrDist)
		}
	}
}

// tooFar writes a copy that can't be.
func tooFar(w *writer, n, dist int) *writer {
	w.t.Helper()
	length, far := lastUpTo(modelLengths(), n), lastUpTo(modelDists(), dist)
	return w.length(257+length.number, n-length.base, length.bits).dist(far.number, dist-far.base, far.bits)
}

// The content is at most 32768 bytes, of the preset as well as of the text.
func TestFullContent(t *testing.T) {
	for _, size := range []int{32766, 32767, 32768, 32769, 65536, 100000} {
		for ahead := range 4 {
			preset, text := noise(size)[:size-ahead], noise(size)[size-ahead:]
			checkFull(t, write(t, size%8, preset).stored(false, text))
		}
	}
	checkFull(t, write(t, 1, "").stored(false, noise(32767)))
	checkFull(t, write(t, 2, "").stored(false, noise(32768)))
	checkFull(t, write(t, 3, "").stored(false, noise(32700)).stored(false, noise(69)))
}

// checkFull expects that a copy begins 32768 bytes before if there are so many, and ErrDist if not.
func checkFull(t *testing.T, w *writer) {
	t.Helper()
	w.fixed(true)
	want := w.bad(api.ErrDist)
	if len(w.known) < 32768 {
		tooFar(w, 9, 32768)
	} else {
		w.copy(9, 32768).copy(258, 32767).copy(3, 32768).end()
		want = w.good()
	}
	checkAll(t, w.bits.Text(), w.from, w.preset, want)
	checkSteps(t, w.bits.Text(), w.from, w.preset, want, 1)
	checkSteps(t, w.bits.Text(), w.from, w.preset, want, 5, 40000)
}

// What stands behind the Final block is left alone, whatever it is.
func TestBehindFinal(t *testing.T) {
	for i, begin := range coded() {
		w := begin(write(t, i, ""), false).lit("a").end().stored(true, "b")
		want := w.good()
		w.stored(true, "c").fixed(true).lit("d").end()
		check(t, w.bits.Text(), i, "", want)
		w = begin(write(t, i, "").stored(false, "a"), true).lit("b").end()
		want = w.good()
		begin(w, false).lit("c").end().raw(7, 3)
		check(t, w.bits.Text(), i, "", want)
	}
}

// A text of several blocks, each of which copies from the ones before.
func TestBlocks(t *testing.T) {
	eachPosition(func(from int) {
		w := write(t, from, "preset").stored(false, "abc").fixed(false).lit("d").copy(5, 10).end()
		w.dynamic(false).copy(10, 9).end().stored(false, "").fixed(false).end().stored(false, "ef")
		w.dynamic(false).end().fixed(true).copy(30, 27).lit("g").end().checkGood()
	})
}

// faults write headers that block.Read does not accept, by their errors.
func faults() map[api.Errno]func(w *writer) {
	dynamic := func(w *writer, lits, dists, codes int) *writer {
		return w.raw(4, 3).raw(lits-257, 5).raw(dists-1, 5).raw(codes-4, 4)
	}
	return map[api.Errno]func(w *writer){
		api.ErrBlock: func(w *writer) { w.raw(7, 3) },
		api.ErrSize: func(w *writer) {
			w.raw(0, 3)
			w.bits.Bytes("\x05\x00\x05\x00")
		},
		api.ErrBig:   func(w *writer) { dynamic(w, 287, 1, 4) },
		api.ErrEmpty: func(w *writer) { dynamic(w, 257, 1, 4).raw(0, 12) },
		api.ErrOver:  func(w *writer) { dynamic(w, 257, 1, 4).raw(0o1111, 12) },
		api.ErrUnder: func(w *writer) { dynamic(w, 257, 1, 4).raw(0o0001, 12) },
		api.ErrForm:  func(w *writer) { dynamic(w, 257, 1, 4).raw(0o1001, 12).raw(1, 3) },
		api.ErrNone:  func(w *writer) { dynamic(w, 257, 1, 4).raw(0o1100, 12).raw(255, 8).raw(219, 8) },
	}
}

// The error of a header, behind the bytes of the blocks before it.
func TestBadHeaders(t *testing.T) {
	for e, fault := range faults() {
		eachPosition(func(from int) {
			for _, begin := range coded() {
				for _, w := range []*writer{
					write(t, from, "preset"),
					write(t, from, "preset").stored(false, "abc"),
					begin(write(t, from, "preset"), false).lit("a").copy(7, 3).end(),
					begin(write(t, from, "").stored(false, ""), false).end(),
				} {
					fault(w)
					w.checkBad(e)
				}
			}
		})
	}
}

// What All and Starts return is not shared with anything.
func TestStartsAreNew(t *testing.T) {
	w := write(t, 5, "").stored(false, "a").fixed(false).lit("b").end().stored(true, "c")
	m := newMachine(t, w.bits.Text(), 5, "")
	checkStep(t, m, w.good(), 0, 3)
	_, all, _, _ := inflate.All(w.bits.Text(), 5, "")
	for _, starts := range [][]inflate.Start{m.Starts(), m.Copy().Starts(), all} {
		starts = starts[:cap(starts)]
		for i := range starts {
			starts[i] = inflate.Start{Bit: -1, Out: -1}
		}
		checkState(t, m, w.good(), 3)
		checkState(t, m.Copy(), w.good(), 3)
		checkAll(t, w.bits.Text(), 5, "", w.good())
	}
}
