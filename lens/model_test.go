package lens_test

import (
	"math"
	"math/rand"
	"slices"
	"testing"

	"collimator/api"
	"collimator/lens"
)

// The model lays the codes side by side on a line of 2^15 places: a code of n bits takes the 2^(15 - n) places of all sequences of 15 bits that begin with it.
const places = 32768

// placesOf halves the line once for each bit of a code.
func placesOf(size int) int {
	n := places
	for range size {
		n /= 2
	}
	return n
}

func modelKraft(l []int) int {
	if e := modelError(l); e == api.ErrBig || e == api.ErrArg {
		return -1
	}
	return taken(l)
}

func taken(l []int) int {
	sum := 0
	for _, size := range l {
		if size != 0 {
			sum += placesOf(size)
		}
	}
	return sum
}

// modelError is the error of Codes.
func modelError(l []int) api.Errno {
	outside := func(size int) bool { return size < 0 || size > 15 }
	switch {
	case len(l) > 320:
		return api.ErrBig
	case slices.ContainsFunc(l, outside):
		return api.ErrArg
	case taken(l) > places:
		return api.ErrOver
	}
	return api.OK
}

// modelCodes lays the shorter codes first, and those of one length in the order of the symbols.
func modelCodes(l []int) []int {
	codes := make([]int, len(l))
	at := 0
	for size := 1; size <= 15; size++ {
		for symbol, s := range l {
			if s == size {
				codes[symbol] = at / placesOf(size)
				at += placesOf(size)
			}
		}
	}
	return codes
}

func modelFits(l []int, lone bool) api.Errno {
	if e := modelError(l); e != api.OK {
		return e
	}
	var coded []int
	for _, size := range l {
		if size != 0 {
			coded = append(coded, size)
		}
	}
	switch {
	case taken(l) == places:
		return api.OK
	case lone && (len(coded) == 0 || slices.Equal(coded, []int{1})):
		return api.OK
	case len(coded) == 0:
		return api.ErrEmpty
	}
	return api.ErrUnder
}

// check compares all three functions with the model.
func check(t *testing.T, l []int) {
	t.Helper()
	if got, want := lens.Kraft(l), modelKraft(l); got != want {
		t.Errorf("Kraft(%v) = %d; want %d", l, got, want)
	}
	wantE := modelError(l)
	var want []int
	if wantE == api.OK {
		want = modelCodes(l)
	}
	if got, e := lens.Codes(l); e != wantE || !slices.Equal(got, want) {
		t.Errorf("Codes(%v) = %v, %d; want %v, %d", l, got, e, want, wantE)
	}
	for _, lone := range []bool{false, true} {
		if got, want := lens.Fits(l, lone), modelFits(l, lone); got != want {
			t.Errorf("Fits(%v, %t) = %d; want %d", l, lone, got, want)
		}
	}
}

// eachList visits each list of up to most of the numbers.
func eachList(numbers []int, most int, visit func(l []int)) {
	var extend func(l []int)
	extend = func(l []int) {
		visit(l)
		if len(l) == most {
			return
		}
		for _, n := range numbers {
			extend(append(slices.Clone(l), n))
		}
	}
	extend(nil)
}

// completeLengths are those of a prefix code that is made by dividing codes in two, with symbols without a code between them, always the same for the same seed.
func completeLengths(seed int64) []int {
	source := rand.New(rand.NewSource(seed))
	l := []int{1, 1}
	for range source.Intn(319) {
		at := source.Intn(len(l))
		if source.Intn(3) == 0 {
			at = len(l) - 1 // so that long codes occur
		}
		if l[at] < 15 {
			l[at]++
			l = append(l, l[at])
		}
	}
	if len(l) < 320 {
		l = append(l, make([]int, source.Intn(320-len(l)+1))...)
	}
	source.Shuffle(len(l), func(i, j int) { l[i], l[j] = l[j], l[i] })
	return l
}

// repeated is a list of count lengths, all of them size.
func repeated(size, count int) []int {
	return slices.Repeat([]int{size}, count)
}

// ladder is complete with one code of each length, and a second one of the length 15.
func ladder() []int {
	return []int{1, 2, 3, 4, 5, 6, 7, 8, 9, 10, 11, 12, 13, 14, 15, 15}
}

// with returns a copy of l in which the length at a symbol is another one.
func with(l []int, symbol, size int) []int {
	l = slices.Clone(l)
	l[symbol] = size
	return l
}

// outsiders are no lengths.
func outsiders() []int {
	return []int{-1, 16, 17, -15, 63, 64, 65, 255, 256, 1 << 32, -1 << 32, math.MinInt, math.MinInt + 1, math.MaxInt, math.MaxInt - 1}
}
