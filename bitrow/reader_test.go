package bitrow_test

import (
	"math"
	"strings"
	"testing"

	"collimator/api"
	"collimator/bitrow"
)

func TestExampleReader(t *testing.T) {
	r := newReader(t, "\x05\x80", 0)
	for _, c := range []struct{ n, v int }{{3, 5}, {5, 0}, {8, 128}} {
		if v, e := r.Bits(c.n); v != c.v || e != api.OK {
			t.Errorf("Bits(%d) = %d, %d; want %d", c.n, v, e, c.v)
		}
	}
	checkReader(t, r, "\x05\x80", 16)
}

func TestNew(t *testing.T) {
	for _, s := range []string{"", "\x00", "\xa5", "abc", noise(40)} {
		for at := range 8*len(s) + 1 {
			checkReader(t, newReader(t, s, at), s, at)
		}
	}
}

func TestNewErrors(t *testing.T) {
	for _, s := range []string{"", "a", noise(40)} {
		end := 8 * len(s)
		for _, at := range []int{-1, -2, -8, math.MinInt, math.MinInt + 1, end + 1, end + 8, 1 << 32, math.MaxInt - 1, math.MaxInt} {
			if r, e := bitrow.New(s, at); r != nil || e != api.ErrArg {
				t.Errorf("New of %d bytes at %d = %v, %d; want ErrArg", len(s), at, r, e)
			}
		}
	}
}

func TestCopy(t *testing.T) {
	s := noise(12)
	for at := range 8*len(s) + 1 {
		r := newReader(t, s, at)
		c := r.Copy()
		if c == r {
			t.Fatal("Copy returns the reader itself")
		}
		checkReader(t, c, s, at)
		for r.Skip(1) == api.OK {
		}
		checkReader(t, r, s, 8*len(s))
		checkReader(t, c, s, at)
		d := c.Copy()
		c.Align()
		checkReader(t, r, s, 8*len(s))
		checkReader(t, d, s, at)
		if v, e := d.Bits(0); v != 0 || e != api.OK {
			t.Errorf("Bits(0) of a copy of a copy = %d, %d", v, e)
		}
	}
}

// Each number of bits is read, peeked and skipped at each position, up to the end and beyond it.
func TestBitsPeekSkip(t *testing.T) {
	for _, s := range []string{"", "\x00", "\xff", "\x80\x01", strings.Repeat("\xff", 6), noise(13)} {
		row := rowOf(s)
		for at := range len(row) + 1 {
			for n := range 33 {
				checkAdvance(t, s, row[at:], at, n)
			}
		}
	}
}

func checkAdvance(t *testing.T, s, rest string, at, n int) {
	t.Helper()
	r := newReader(t, s, at)
	v, wantE, end := numberOf(rest[:min(n, len(rest))]), api.OK, at+n
	if got := r.Peek(n); got != v {
		t.Errorf("Peek(%d) at %d of %q = %d; want %d", n, at, s, got, v)
	}
	checkReader(t, r, s, at)
	if n > len(rest) {
		v, wantE, end = 0, api.ErrShort, at
	}
	skip := r.Copy()
	if got, e := r.Bits(n); got != v || e != wantE {
		t.Errorf("Bits(%d) at %d of %q = %d, %d; want %d, %d", n, at, s, got, e, v, wantE)
	}
	checkReader(t, r, s, end)
	if e := skip.Skip(n); e != wantE {
		t.Errorf("Skip(%d) at %d of %q = %d; want %d", n, at, s, e, wantE)
	}
	checkReader(t, skip, s, end)
}

// A number of bits that can't be is ErrArg, also where bits are missing.
func TestBadCounts(t *testing.T) {
	for _, s := range []string{"", "a", noise(40)} {
		for _, at := range []int{0, 4 * len(s), 8 * len(s)} {
			r := newReader(t, s, at)
			for _, n := range badCounts() {
				if v, e := r.Bits(n); v != 0 || e != api.ErrArg {
					t.Errorf("Bits(%d) at %d of %d bytes = %d, %d; want ErrArg", n, at, len(s), v, e)
				}
				if e := r.Skip(n); e != api.ErrArg {
					t.Errorf("Skip(%d) at %d of %d bytes = %d; want ErrArg", n, at, len(s), e)
				}
				if v := r.Peek(n); v != 0 {
					t.Errorf("Peek(%d) at %d of %d bytes = %d; want 0", n, at, len(s), v)
				}
				checkReader(t, r, s, at)
			}
		}
	}
}

func TestReaderAlign(t *testing.T) {
	s := noise(5)
	for at := range 8*len(s) + 1 {
		want := at
		for want%8 != 0 {
			want++
		}
		r := newReader(t, s, at)
		r.Align()
		checkReader(t, r, s, want)
		r.Align()
		checkReader(t, r, s, want)
	}
	empty := newReader(t, "", 0)
	empty.Align()
	checkReader(t, empty, "", 0)
}

func TestReaderBytes(t *testing.T) {
	for _, s := range []string{"", "a", "\x00\xff\x80", noise(20)} {
		for from := range len(s) + 1 {
			for n := range len(s) - from + 1 {
				r := newReader(t, s, 8*from)
				if got, e := r.Bytes(n); got != s[from:from+n] || e != api.OK {
					t.Errorf("Bytes(%d) at byte %d of %q = %q, %d", n, from, s, got, e)
				}
				checkReader(t, r, s, 8*(from+n))
			}
		}
	}
}

// ErrArg comes ahead of ErrShort.
func TestReaderBytesErrors(t *testing.T) {
	s := noise(6)
	for at := range 8*len(s) + 1 {
		r := newReader(t, s, at)
		left := len(s) - at/8
		for _, n := range []int{-1, -2, -8, math.MinInt, math.MinInt + 1, left + 1, left + 2, 8 * len(s), 100, 1 << 32, 1 << 60, 1<<61 + 1, math.MaxInt - 1, math.MaxInt} {
			want := api.ErrShort
			if n < 0 || at%8 != 0 {
				want = api.ErrArg
			}
			if got, e := r.Bytes(n); got != "" || e != want {
				t.Errorf("Bytes(%d) at %d = %q, %d; want %d", n, at, got, e, want)
			}
			checkReader(t, r, s, at)
		}
		if at%8 == 0 {
			continue
		}
		for n := range left + 1 {
			if got, e := r.Bytes(n); got != "" || e != api.ErrArg {
				t.Errorf("Bytes(%d) at %d = %q, %d; want ErrArg", n, at, got, e)
			}
			checkReader(t, r, s, at)
		}
	}
}

// The limit of 32 bits is one of numbers, not of bytes.
func TestReaderManyBytes(t *testing.T) {
	s := noise(100000)
	r := newReader(t, s, 8)
	if got, e := r.Bytes(99998); got != s[1:99999] || e != api.OK {
		t.Errorf("Bytes(99998) has %d bytes, %d", len(got), e)
	}
	if v, e := r.Bits(8); v != int(s[99999]) || e != api.OK || r.Left() != 0 {
		t.Errorf("the last byte = %d, %d with %d left", v, e, r.Left())
	}
}

// noReaders are a nil reader and ones that New did not return.
func noReaders(t *testing.T) []*bitrow.Reader {
	copied := *newReader(t, noise(20), 8)
	return []*bitrow.Reader{nil, {}, new(bitrow.Reader), &copied}
}

func TestNoReader(t *testing.T) {
	counts := append(badCounts(), 0, 1, 8, 32)
	for i, r := range noReaders(t) {
		for _, n := range counts {
			if v, e := r.Bits(n); v != 0 || e != api.ErrNil {
				t.Errorf("reader %d: Bits(%d) = %d, %d; want ErrNil", i, n, v, e)
			}
			if v := r.Peek(n); v != 0 {
				t.Errorf("reader %d: Peek(%d) = %d; want 0", i, n, v)
			}
			if e := r.Skip(n); e != api.ErrNil {
				t.Errorf("reader %d: Skip(%d) = %d; want ErrNil", i, n, e)
			}
			if s, e := r.Bytes(n); s != "" || e != api.ErrNil {
				t.Errorf("reader %d: Bytes(%d) = %q, %d; want ErrNil", i, n, s, e)
			}
		}
		r.Align()
		if r.At() != 0 || r.Left() != 0 {
			t.Errorf("reader %d: At and Left = %d, %d; want 0", i, r.At(), r.Left())
		}
		if r.Copy() != nil {
			t.Errorf("reader %d: Copy is not nil", i)
		}
	}
}
