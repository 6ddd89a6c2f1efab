package lens_test

import (
	"slices"
	"testing"

	"collimator/api"
	"collimator/lens"
)

func TestConstants(t *testing.T) {
	if lens.Longest != 15 || lens.Most != 320 {
		t.Errorf("Longest, Most = %d, %d; want 15, 320", lens.Longest, lens.Most)
	}
}

func TestKraft(t *testing.T) {
	cases := []struct {
		l    []int
		want int
	}{
		{nil, 0},
		{[]int{}, 0},
		{[]int{0}, 0},
		{repeated(0, 320), 0},
		{[]int{15}, 1},
		{[]int{14}, 2},
		{[]int{1}, 16384},
		{[]int{1, 0}, 16384},
		{[]int{2, 1, 3, 3}, 32768},
		{ladder(), 32768},
		{ladder()[:15], 32767},
		{append(ladder(), 15), 32769},
		{[]int{1, 1, 1}, 49152},
		{repeated(15, 320), 320},
		{repeated(1, 320), 320 * 16384},
		{repeated(0, 321), -1},
		{repeated(1, 321), -1},
		{repeated(0, 1000), -1},
		{repeated(16, 321), -1},
	}
	for _, c := range cases {
		if got := lens.Kraft(c.l); got != c.want {
			t.Errorf("Kraft(%v) = %d; want %d", c.l, got, c.want)
		}
	}
	for size := 1; size <= 15; size++ {
		if got, want := lens.Kraft([]int{size}), 1<<(15-size); got != want {
			t.Errorf("Kraft of one length %d = %d; want %d", size, got, want)
		}
	}
}

func TestCodes(t *testing.T) {
	cases := []struct {
		l, want []int
		e       api.Errno
	}{
		{nil, nil, api.OK},
		{[]int{}, nil, api.OK},
		{[]int{0}, []int{0}, api.OK},
		{repeated(0, 320), repeated(0, 320), api.OK},
		{[]int{2, 1, 3, 3}, []int{2, 0, 6, 7}, api.OK},
		{[]int{3, 3, 3, 3, 3, 2, 4, 4}, []int{2, 3, 4, 5, 6, 0, 14, 15}, api.OK}, // the example of RFC 1951, 3.2.2
		{[]int{1}, []int{0}, api.OK},
		{[]int{15}, []int{0}, api.OK},
		{[]int{0, 1, 0, 1}, []int{0, 0, 0, 1}, api.OK},
		{[]int{1, 15, 15}, []int{0, 1 << 14, 1<<14 + 1}, api.OK},
		{[]int{15, 0, 1, 5}, []int{17 << 10, 0, 0, 16}, api.OK},
		{[]int{2, 2, 2}, []int{0, 1, 2}, api.OK},
		{ladder(), []int{0, 2, 6, 14, 30, 62, 126, 254, 510, 1022, 2046, 4094, 8190, 16382, 32766, 32767}, api.OK},
		{ladder()[:15], []int{0, 2, 6, 14, 30, 62, 126, 254, 510, 1022, 2046, 4094, 8190, 16382, 32766}, api.OK},
		{append(ladder(), 15), nil, api.ErrOver},
		{[]int{1, 1, 1}, nil, api.ErrOver},
		{[]int{1, 1, 15}, nil, api.ErrOver},
		{repeated(1, 320), nil, api.ErrOver},
		{repeated(8, 257), nil, api.ErrOver},
	}
	for _, c := range cases {
		if got, e := lens.Codes(c.l); e != c.e || !slices.Equal(got, c.want) {
			t.Errorf("Codes(%v) = %v, %d; want %v, %d", c.l, got, e, c.want, c.e)
		}
	}
}

func TestCodesOfFixedBlocks(t *testing.T) {
	l := slices.Concat(repeated(8, 144), repeated(9, 112), repeated(7, 24), repeated(8, 8))
	codes, e := lens.Codes(l)
	if e != api.OK || len(codes) != 288 {
		t.Fatalf("%d codes, %d", len(codes), e)
	}
	// RFC 1951, 3.2.6, lists these.
	for symbol, want := range map[int]int{0: 0x30, 143: 0xbf, 144: 0x190, 255: 0x1ff, 256: 0, 279: 0x17, 280: 0xc0, 287: 0xc7} {
		if codes[symbol] != want {
			t.Errorf("the code of %d is %x; want %x", symbol, codes[symbol], want)
		}
	}
}

func TestFits(t *testing.T) {
	cases := []struct {
		l             []int
		strict, loose api.Errno
	}{
		{nil, api.ErrEmpty, api.OK},
		{[]int{}, api.ErrEmpty, api.OK},
		{[]int{0}, api.ErrEmpty, api.OK},
		{repeated(0, 320), api.ErrEmpty, api.OK},
		{[]int{1}, api.ErrUnder, api.OK},
		{[]int{1, 0}, api.ErrUnder, api.OK},
		{with(repeated(0, 320), 319, 1), api.ErrUnder, api.OK},
		{[]int{2}, api.ErrUnder, api.ErrUnder},
		{[]int{0, 3, 0}, api.ErrUnder, api.ErrUnder},
		{[]int{15}, api.ErrUnder, api.ErrUnder},
		{[]int{2, 2}, api.ErrUnder, api.ErrUnder}, // the Kraft sum of a lone code of length 1
		{[]int{1, 2}, api.ErrUnder, api.ErrUnder},
		{[]int{1, 15}, api.ErrUnder, api.ErrUnder},
		{repeated(15, 320), api.ErrUnder, api.ErrUnder},
		{[]int{1, 1}, api.OK, api.OK},
		{[]int{2, 1, 3, 3}, api.OK, api.OK},
		{append(repeated(8, 256), repeated(0, 64)...), api.OK, api.OK},
		{ladder(), api.OK, api.OK},
		{ladder()[:15], api.ErrUnder, api.ErrUnder},
		{append(ladder(), 15), api.ErrOver, api.ErrOver},
		{[]int{1, 1, 1}, api.ErrOver, api.ErrOver},
	}
	for _, c := range cases {
		if strict, loose := lens.Fits(c.l, false), lens.Fits(c.l, true); strict != c.strict || loose != c.loose {
			t.Errorf("Fits(%v) = %d, and %d with lone; want %d and %d", c.l, strict, loose, c.strict, c.loose)
		}
	}
}

// A lone code is one, at each symbol and of each length.
func TestLoneCode(t *testing.T) {
	for size := 1; size <= 15; size++ {
		want := api.ErrUnder
		if size == 1 {
			want = api.OK
		}
		for symbol := range 320 {
			l := with(repeated(0, 320), symbol, size)
			if e := lens.Fits(l, true); e != want {
				t.Errorf("Fits of a length %d at %d, with lone = %d; want %d", size, symbol, e, want)
			}
			if e := lens.Fits(l, false); e != api.ErrUnder {
				t.Errorf("Fits of a length %d at %d = %d; want %d", size, symbol, e, api.ErrUnder)
			}
		}
	}
}

// checkError expects one error of all three functions.
func checkError(t *testing.T, l []int, kraft int, want api.Errno) {
	t.Helper()
	if got := lens.Kraft(l); got != kraft {
		t.Errorf("Kraft(%v) = %d; want %d", l, got, kraft)
	}
	if codes, e := lens.Codes(l); e != want || len(codes) != 0 {
		t.Errorf("Codes(%v) = %v, %d; want %d", l, codes, e, want)
	}
	if strict, loose := lens.Fits(l, false), lens.Fits(l, true); strict != want || loose != want {
		t.Errorf("Fits(%v) = %d, and %d with lone; want %d", l, strict, loose, want)
	}
}

func TestOutsideLength(t *testing.T) {
	for _, size := range outsiders() {
		for _, symbol := range []int{0, 1, 200, 319} {
			checkError(t, with(repeated(0, 320), symbol, size), -1, api.ErrArg)
		}
		checkError(t, []int{size}, -1, api.ErrArg)
		checkError(t, []int{1, size, 1}, -1, api.ErrArg)
	}
}

// The first of the errors that apply is returned: too many lengths, a length outside, a Kraft sum above that of a complete code.
func TestOrderOfErrors(t *testing.T) {
	for _, size := range outsiders() {
		checkError(t, with(repeated(0, 321), 0, size), -1, api.ErrBig)
		checkError(t, with(repeated(0, 321), 320, size), -1, api.ErrBig)
		checkError(t, with(repeated(1, 400), 7, size), -1, api.ErrBig)
		checkError(t, []int{size, 1, 1, 1}, -1, api.ErrArg)
		checkError(t, []int{1, 1, 1, size}, -1, api.ErrArg)
	}
	for _, count := range []int{321, 322, 640, 1000, 1 << 16} {
		checkError(t, repeated(0, count), -1, api.ErrBig)
		checkError(t, repeated(15, count), -1, api.ErrBig)
		checkError(t, repeated(1, count), -1, api.ErrBig)
	}
	checkError(t, []int{1, 1, 1}, 49152, api.ErrOver)
	checkError(t, append(ladder(), 15), 32769, api.ErrOver)
	checkError(t, repeated(1, 320), 320*16384, api.ErrOver)
}

func TestMostLengths(t *testing.T) {
	for size := range 16 {
		for count := 314; count <= 322; count++ {
			check(t, repeated(size, count))
		}
	}
}

func TestShortLists(t *testing.T) {
	eachList([]int{0, 1, 2, 3, 4}, 6, func(l []int) { check(t, l) })
	eachList([]int{-1, 0, 1, 2, 14, 15, 16}, 5, func(l []int) { check(t, l) })
}

// Of each length, as many codes as there are sequences of its bits, one less and one more.
func TestEqualLengths(t *testing.T) {
	for size := 1; size <= 15; size++ {
		for count := range 321 {
			check(t, repeated(size, count))
		}
	}
}

// Lists around a complete code: with one length that is another one.
func TestAroundComplete(t *testing.T) {
	for seed := range int64(60) {
		l := completeLengths(seed)
		check(t, l)
		for symbol := range l {
			for _, size := range []int{0, 1, l[symbol] - 1, l[symbol] + 1, 15} {
				check(t, with(l, symbol, size))
			}
		}
	}
}

// The arguments and what lies behind them remain as they are, and each result is new.
func TestMemory(t *testing.T) {
	for _, l := range [][]int{{}, {2, 1, 3, 3}, {1, 1, 1}, {1, 16}, completeLengths(1)} {
		whole := append(slices.Clone(l), 5, 6, 7, 8)
		before := slices.Clone(whole)
		given := whole[:len(l)]
		lens.Kraft(given)
		lens.Fits(given, true)
		first, _ := lens.Codes(given)
		want := slices.Clone(first)
		if !slices.Equal(whole, before) {
			t.Fatalf("%v became %v", before, whole)
		}
		overwrite(first)
		if !slices.Equal(whole, before) {
			t.Errorf("Codes(%v) shares memory with its argument", l)
		}
		second, _ := lens.Codes(given)
		overwrite(whole)
		overwrite(first)
		if !slices.Equal(second, want) {
			t.Errorf("Codes(%v) = %v the second time; want %v", l, second, want)
		}
	}
}

// overwrite changes all numbers of a list, and those of its spare capacity.
func overwrite(l []int) {
	l = l[:cap(l)]
	for i := range l {
		l[i] = -77
	}
}

// TestSameArgumentsSameResults calls with other arguments in between.
func TestSameArgumentsSameResults(t *testing.T) {
	for seed := range int64(20) {
		l := completeLengths(seed)
		for _, other := range [][]int{nil, {1, 1, 1}, {99}, repeated(15, 320), completeLengths(seed + 1)} {
			check(t, other)
			check(t, l)
		}
	}
}
