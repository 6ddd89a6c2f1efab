package pack_test

import (
	"math/rand"
	"slices"
	"strings"
	"testing"

	"collimator/api"
	"collimator/pack"
)

// someText has words, bytes without a pattern, few bytes, or one byte.
func someText(source *rand.Rand, size int) string {
	var text []byte
	kind := source.Intn(5)
	for len(text) < size {
		switch kind {
		case 0:
			text = append(text, []string{"let ", "there ", "be ", "light", ", and ", "\n"}[source.Intn(6)]...)
		case 1:
			text = append(text, byte(source.Intn(256)))
		case 2:
			text = append(text, byte(source.ExpFloat64()*12))
		case 3:
			text = append(text, 'a'+byte(source.Intn(2)))
		case 4:
			text = append(text, strings.Repeat(string([]byte{byte(source.Intn(256))}), 1+source.Intn(400))...)
		}
	}
	return string(text[:size])
}

// someLengths are a complete code of so many symbols, some of which have none; at least the symbol that must has a code.
func someLengths(source *rand.Rand, symbols, must int) []int {
	sizes := []int{1, 1}
	for range source.Intn(symbols - 1) {
		if at := source.Intn(len(sizes)); sizes[at] < 15 {
			sizes[at]++
			sizes = append(sizes, sizes[at])
		}
	}
	l := make([]int, symbols)
	for i, at := range source.Perm(symbols)[:len(sizes)] {
		l[at] = sizes[i]
	}
	if l[must] == 0 {
		other := slices.IndexFunc(l, func(n int) bool { return n > 0 })
		l[must], l[other] = l[other], 0
	}
	return l
}

// someOps follow a text of so many bytes. Of the symbols, most have a code by these lengths.
func someOps(source *rand.Rand, before int, lits, dists []int) []api.Op {
	l := []api.Op{}
	for range source.Intn(50) {
		op := api.Op{Lit: byte(source.Intn(256))}
		if before > 0 && source.Intn(2) == 0 {
			op = copied(3+source.Intn(256), 1+source.Intn(min(before, 32768, 1<<source.Intn(16))))
		}
		if canWrite(op, lits, dists) || source.Intn(1000) == 0 {
			l = append(l, op)
			before += max(1, op.Len)
		}
	}
	return l
}

func canWrite(op api.Op, lits, dists []int) bool {
	has := func(l []int, symbol int) bool { return symbol < len(l) && l[symbol] > 0 }
	if op.Len == 0 {
		return has(lits, int(op.Lit))
	}
	return has(lits, 257+lastUpTo(modelLengths(), op.Len).number) && has(dists, lastUpTo(modelDists(), op.Dist).number)
}

// someParts are parts of all kinds; now and then something in them is wrong.
func someParts(source *rand.Rand) []pack.Part {
	l := []pack.Part{}
	if source.Intn(20) == 0 {
		l = append(l, stored(noise(source.Intn(65536))))
	}
	for range 1 + source.Intn(6) {
		text, _ := modelText(append([]pack.Part{stored("")}, l...))
		p := stored(someText(source, source.Intn(500)))
		switch source.Intn(3) {
		case 1:
			p = pack.Part{Kind: api.Fixed, Ops: someOps(source, len(text), slices.Repeat([]int{1}, 286), slices.Repeat([]int{1}, 30))}
		case 2:
			p = pack.Part{Kind: api.Dynamic, Lits: someLengths(source, 257+source.Intn(30), 256), Dists: someLengths(source, 2+source.Intn(29), 0)}
			p.Ops = someOps(source, len(text), p.Lits, p.Dists)
		}
		l = append(l, p)
	}
	if source.Intn(3) == 0 {
		breakPart(source, &l[source.Intn(len(l))])
	}
	return l
}

// breakPart makes something wrong, if there is such a thing in the part.
func breakPart(source *rand.Rand, p *pack.Part) {
	switch source.Intn(6) {
	case 0:
		p.Kind = []int{-1, 0, 1, 2, 3}[source.Intn(5)]
	case 1:
		p.Text += noise(65536)
	case 2:
		if len(p.Ops) > 0 {
			p.Ops[source.Intn(len(p.Ops))].Len = source.Intn(300) - 10
		}
	case 3:
		if len(p.Ops) > 0 {
			p.Ops[source.Intn(len(p.Ops))].Dist = source.Intn(40000) - 1000
		}
	case 4:
		if len(p.Lits) > 0 {
			p.Lits[source.Intn(len(p.Lits))] = source.Intn(18) - 1
		}
	case 5:
		if len(p.Lits) > 0 {
			p.Lits[256] = 0
		}
	}
}

// P11.1, P11.2 and P11.5 for parts of all kinds, each error of which occurs.
func TestSomeParts(t *testing.T) {
	found := map[api.Errno]int{}
	for seed := range int64(2000) {
		l := someParts(rand.New(rand.NewSource(seed)))
		check(t, l...)
		_, e := pack.Encode(l)
		found[e]++
	}
	for _, e := range []api.Errno{api.OK, api.ErrArg, api.ErrDist, api.ErrNone, api.ErrOver, api.ErrUnder} {
		if found[e] == 0 {
			t.Errorf("the error %d did not occur: %v", e, found)
		}
	}
	if found[api.OK] < 1000 {
		t.Errorf("only %d of 2000 were encoded", found[api.OK])
	}
}

// checkProduces expects of the ops of a text that they produce it, within the bounds of P11.3.
func checkProduces(t *testing.T, s string) {
	t.Helper()
	ops := pack.Ops(s)
	checkText(t, []pack.Part{{Kind: api.Fixed, Ops: ops}}, s, api.OK)
	for i, op := range ops {
		isLiteral := op.Len == 0 && op.Dist == 0
		isCopy := op.Len >= 3 && op.Len <= 258 && op.Dist >= 1 && op.Dist <= 256 && op.Lit == 0
		if !isLiteral && !isCopy {
			t.Fatalf("the op %d of %s is %v", i, brief(s), op)
		}
	}
}

// P11.3 for texts of all kinds.
func TestSomeOps(t *testing.T) {
	for seed := range int64(600) {
		source := rand.New(rand.NewSource(seed))
		s := someText(source, source.Intn(3000))
		checkOps(t, s, modelOps(s)...)
		checkProduces(t, s)
	}
	for seed := range int64(10) {
		checkProduces(t, someText(rand.New(rand.NewSource(seed)), 300000))
	}
}

// checkRestored expects that the parts of a text represent it, and that their blocks are decompressed to it.
func checkRestored(t *testing.T, s string, n int) {
	t.Helper()
	l := pack.Split(s, n)
	checkText(t, l, s, api.OK)
	blocks, e := pack.Encode(l)
	if e != api.OK {
		t.Fatalf("Encode of Split of %s, %d: %d", brief(s), n, e)
	}
	checkBlocks(t, blocks, s, len(l))
}

// P11.4 and P11.5 for texts of all kinds and pieces of all sizes.
func TestSomeSplits(t *testing.T) {
	for seed := range int64(300) {
		source := rand.New(rand.NewSource(seed))
		s := someText(source, source.Intn(2000))
		for _, n := range []int{1 + source.Intn(20), 1 + source.Intn(2000), source.Intn(3) - 1, max(1, len(s)/2)} {
			checkSplit(t, s, n, slices.Collect(modelPieces(s, n))...)
			checkRestored(t, s, n)
		}
		check(t, pack.Split(s, 100)...)
	}
	for seed := range int64(5) {
		source := rand.New(rand.NewSource(seed))
		s := someText(source, 100000+source.Intn(100000))
		checkRestored(t, s, 0)
		checkRestored(t, s, 1+source.Intn(65535))
	}
}

// modelPieces are the pieces of P11.4.
func modelPieces(s string, n int) func(yield func(string) bool) {
	if n < 1 || n > 65535 {
		n = 65535
	}
	return func(yield func(string) bool) {
		for from := 0; from < max(1, len(s)); from += n {
			if !yield(s[from:min(len(s), from+n)]) {
				return
			}
		}
	}
}

// Every number of bytes that a text and its pieces can have, up to some.
func TestAllSmallSplits(t *testing.T) {
	for size := range 40 {
		s := strings.Repeat("abcab", 8)[:size]
		for n := 1; n <= 42; n++ {
			checkSplit(t, s, n, slices.Collect(modelPieces(s, n))...)
			checkRestored(t, s, n)
		}
	}
}

func FuzzSplit(f *testing.F) {
	f.Add("aaaa", 4)
	f.Add("abcabcab", 0)
	f.Add("", 1)
	f.Fuzz(func(t *testing.T, s string, n int) {
		if len(s) > 10000 {
			return
		}
		checkOps(t, s, modelOps(s)...)
		checkSplit(t, s, n, slices.Collect(modelPieces(s, n))...)
		checkRestored(t, s, n)
	})
}

func FuzzParts(f *testing.F) {
	f.Add([]byte("\x00\x00abc\x01"), "abc")
	f.Fuzz(func(t *testing.T, s []byte, text string) {
		l := []pack.Part{}
		next := func() int {
			if len(s) == 0 {
				return 0
			}
			b := int(s[0])
			s = s[1:]
			return b
		}
		for len(s) > 0 && len(l) < 5 {
			p := pack.Part{Kind: next()%5 - 1, Text: text}
			for range next() {
				p.Ops = append(p.Ops, api.Op{Lit: byte(next()), Len: 2*next() - 1, Dist: next()*next() - 3})
			}
			p.Lits, p.Dists = allLits(), allDists()
			p.Lits[next()] = next()%18 - 1
			p.Dists[next()%30] = next()%18 - 1
			l = append(l, p)
		}
		check(t, l...)
	})
}
