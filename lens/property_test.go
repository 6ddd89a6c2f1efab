package lens_test

import (
	"math/rand"
	"testing"

	"collimator/api"
	"collimator/lens"
)

// codesOf expects that there are codes.
func codesOf(t *testing.T, l []int) []int {
	t.Helper()
	codes, e := lens.Codes(l)
	if e != api.OK || len(codes) != len(l) {
		t.Fatalf("Codes(%v) = %v, %d", l, codes, e)
	}
	return codes
}

// checkPrefixes compares each code with the beginning of each other one.
func checkPrefixes(t *testing.T, l []int) {
	t.Helper()
	codes := codesOf(t, l)
	for a, short := range l {
		if short == 0 && codes[a] != 0 || codes[a] < 0 || codes[a]>>short != 0 {
			t.Errorf("lengths %v: the code %d of %d has not %d bits", l, codes[a], a, short)
		}
		for b, long := range l {
			if a == b || short == 0 || long < short {
				continue
			}
			if codes[b]>>(long-short) == codes[a] {
				t.Errorf("lengths %v: the code of %d is a prefix of that of %d", l, a, b)
			}
		}
	}
}

// beginnings counts the codes with which a sequence of 15 bits begins.
func beginnings(l, codes []int, bits int) int {
	n := 0
	for symbol, size := range l {
		if size > 0 && bits>>(15-size) == codes[symbol] {
			n++
		}
	}
	return n
}

// checkSequences expects that each sequence of 15 bits begins with exactly one code if the code is complete, that as many as the Kraft sum do if not, and none with two.
func checkSequences(t *testing.T, l []int) {
	t.Helper()
	codes := codesOf(t, l)
	begun := 0
	for bits := range 1 << 15 {
		n := beginnings(l, codes, bits)
		if n > 1 {
			t.Fatalf("lengths %v: the bits %015b begin with %d codes", l, bits, n)
		}
		begun += n
	}
	if sum := lens.Kraft(l); begun != sum {
		t.Errorf("lengths %v: %d sequences begin with a code; want %d", l, begun, sum)
	}
	if fits := lens.Fits(l, false) == api.OK; fits != (begun == 1<<15) {
		t.Errorf("lengths %v: %d sequences begin with a code, but Fits is %t", l, begun, fits)
	}
}

func TestPrefixesOfShortLists(t *testing.T) {
	visit := func(l []int) {
		if lens.Kraft(l) <= 1<<15 {
			checkPrefixes(t, l)
		}
	}
	eachList([]int{0, 1, 2, 3, 4, 5}, 6, visit)
	eachList([]int{1, 7, 14, 15}, 6, visit)
}

func TestSequencesOfShortLists(t *testing.T) {
	eachList([]int{0, 1, 2, 3}, 4, func(l []int) {
		if lens.Kraft(l) <= 1<<15 {
			checkSequences(t, l)
		}
	})
}

func TestCompleteCodes(t *testing.T) {
	longest := 0
	for seed := range int64(40) {
		l := completeLengths(seed)
		if e := lens.Fits(l, false); e != api.OK || lens.Kraft(l) != 1<<15 {
			t.Fatalf("Fits(%v) = %d, Kraft = %d", l, e, lens.Kraft(l))
		}
		checkPrefixes(t, l)
		checkSequences(t, l)
		for _, size := range l {
			longest = max(longest, size)
		}
	}
	if longest != 15 {
		t.Errorf("the longest code that was tried has %d bits", longest)
	}
}

func TestCompleteCodesAtTheEdges(t *testing.T) {
	lists := [][]int{ladder(), {1, 1}, repeated(2, 4), repeated(8, 256), append(repeated(0, 64), repeated(8, 256)...)}
	for _, l := range lists {
		if e := lens.Fits(l, false); e != api.OK {
			t.Errorf("Fits(%v) = %d", l, e)
		}
		checkPrefixes(t, l)
		checkSequences(t, l)
	}
}

// Codes that are not complete have no prefixes either.
func TestIncompleteCodes(t *testing.T) {
	source := rand.New(rand.NewSource(3))
	for seed := range int64(40) {
		l := completeLengths(seed)
		for range 1 + source.Intn(20) {
			symbol := source.Intn(len(l))
			if l[symbol] > 0 {
				l[symbol] += source.Intn(16 - l[symbol])
			}
			if source.Intn(3) == 0 {
				l[symbol] = 0
			}
		}
		checkPrefixes(t, l)
		checkSequences(t, l)
	}
	checkPrefixes(t, repeated(15, 320))
	checkSequences(t, repeated(15, 320))
}

func FuzzLens(f *testing.F) {
	f.Add([]byte{2, 1, 3, 3})
	f.Add([]byte{1, 0})
	f.Add([]byte{1, 1, 15})
	f.Add([]byte{16, 255})
	f.Add(make([]byte, 321))
	f.Fuzz(func(t *testing.T, sizes []byte) {
		l := make([]int, len(sizes))
		for i, size := range sizes {
			l[i] = int(int8(size))
		}
		check(t, l)
		if _, e := lens.Codes(l); e == api.OK {
			checkPrefixes(t, l)
		}
	})
}
