package bitrow_test

import (
	"math"
	"strings"
	"testing"

	"collimator/api"
	"collimator/bitrow"
)

func TestExampleWriter(t *testing.T) {
	w := bitrow.Open()
	if e := w.Put(1, 1); e != api.OK {
		t.Error(e)
	}
	if e := w.Code(3, 3); e != api.OK {
		t.Error(e)
	}
	checkWriter(t, w, "1"+"011")
	if w.Text() != "\x0d" {
		t.Errorf("Text() = %q; want 0d", w.Text())
	}
}

func TestOpen(t *testing.T) {
	one, two := bitrow.Open(), bitrow.Open()
	checkWriter(t, one, "")
	one.Put(5, 3)
	one.Bytes("x")
	checkWriter(t, two, "")
	two.Put(2, 2)
	checkWriter(t, one, filled("101")+rowOf("x"))
	checkWriter(t, two, "01")
}

// writerAfter is a writer that n bits were appended to, and its row.
func writerAfter(t *testing.T, n int) (*bitrow.Writer, string) {
	t.Helper()
	w, row := bitrow.Open(), ""
	for i := range n {
		if e := w.Put(1-i%3%2, 1); e != api.OK {
			t.Fatal(e)
		}
		row += rowOfNumber(1-i%3%2, 1)
	}
	checkWriter(t, w, row)
	return w, row
}

// values are numbers of n bits: the least and the greatest ones, each single bit, and ones without a pattern.
func values(n int) []int {
	roll := dice(uint64(n))
	out := []int{0, 1<<n - 1}
	for bit := range n {
		out = append(out, 1<<bit, 1<<n-1-1<<bit, roll(1<<n))
	}
	return out
}

// Numbers of each size are appended behind rows of each length up to two bytes.
func TestPutAndCode(t *testing.T) {
	for before := range 17 {
		for n := range 33 {
			for _, v := range values(n) {
				put, row := writerAfter(t, before)
				if e := put.Put(v, n); e != api.OK {
					t.Errorf("Put(%d, %d) = %d", v, n, e)
				}
				checkWriter(t, put, row+rowOfNumber(v, n))
				code, _ := writerAfter(t, before)
				if e := code.Code(v, n); e != api.OK {
					t.Errorf("Code(%d, %d) = %d", v, n, e)
				}
				checkWriter(t, code, row+reversed(rowOfNumber(v, n)))
			}
		}
	}
}

// badNumbers are numbers that do not fit n bits.
func badNumbers(n int) []int {
	return []int{-1, -2, -1 << n, -1<<n - 1, math.MinInt, math.MinInt + 1, 1 << n, 1<<n + 1, 1 << (n + 1), 1<<(n+1) - 1, 1 << 33, 1 << 62, math.MaxInt - 1, math.MaxInt}
}

// checkRefused checks that neither Put nor Code takes v and n, and that the writer stays as it was.
func checkRefused(t *testing.T, w *bitrow.Writer, row string, v, n int) {
	t.Helper()
	if e := w.Put(v, n); e != api.ErrArg {
		t.Errorf("Put(%d, %d) = %d; want ErrArg", v, n, e)
	}
	checkWriter(t, w, row)
	if e := w.Code(v, n); e != api.ErrArg {
		t.Errorf("Code(%d, %d) = %d; want ErrArg", v, n, e)
	}
	checkWriter(t, w, row)
}

func TestPutAndCodeErrors(t *testing.T) {
	for _, before := range []int{0, 1, 7, 8, 13} {
		w, row := writerAfter(t, before)
		for n := range 33 {
			for _, v := range badNumbers(n) {
				checkRefused(t, w, row, v, n)
			}
		}
		for _, n := range badCounts() {
			for _, v := range []int{0, 1, -1, 255, 1 << 32, math.MinInt, math.MaxInt} {
				checkRefused(t, w, row, v, n)
			}
		}
		if e := w.Put(1, 1); e != api.OK {
			t.Error(e)
		}
		checkWriter(t, w, row+"1")
	}
}

// Code appends what Put appends for the turned number.
func TestCodeIsPutOfTurn(t *testing.T) {
	code, put := bitrow.Open(), bitrow.Open()
	for n := range 33 {
		for _, v := range values(n) {
			code.Code(v, n)
			put.Put(bitrow.Turn(v, n), n)
			if code.Len() != put.Len() || code.Text() != put.Text() {
				t.Fatalf("Code(%d, %d) is not Put of Turn", v, n)
			}
		}
	}
}

func TestWriterAlign(t *testing.T) {
	for before := range 34 {
		w, row := writerAfter(t, before)
		w.Align()
		checkWriter(t, w, filled(row))
		w.Align()
		checkWriter(t, w, filled(row))
		if e := w.Put(5, 3); e != api.OK {
			t.Error(e)
		}
		checkWriter(t, w, filled(row)+"101")
	}
}

func TestWriterBytes(t *testing.T) {
	for before := range 18 {
		for _, s := range []string{"", "\x00", "a", "\xff\x00\x80", noise(300)} {
			w, row := writerAfter(t, before)
			w.Bytes(s)
			row = filled(row) + rowOf(s)
			checkWriter(t, w, row)
			if e := w.Put(1, 2); e != api.OK {
				t.Error(e)
			}
			checkWriter(t, w, row+"10")
			w.Bytes(s)
			checkWriter(t, w, filled(row+"10")+rowOf(s))
		}
	}
}

// Text leaves the writer as it is, and what it returned stays as it was when more is appended to the same byte.
func TestTextChangesNothing(t *testing.T) {
	w, row := bitrow.Open(), ""
	var texts, rows []string
	for i := range 70 {
		for range 3 {
			texts, rows = append(texts, w.Text()), append(rows, row)
		}
		checkWriter(t, w, row)
		if e := w.Put(1, 1+i%5); e != api.OK {
			t.Error(e)
		}
		row += rowOfNumber(1, 1+i%5)
	}
	for i := range texts {
		if texts[i] != packed(rows[i]) {
			t.Errorf("text %d has become %q; want %q", i, texts[i], packed(rows[i]))
		}
	}
}

// noWriters are a nil writer and ones that Open did not return.
func noWriters() []*bitrow.Writer {
	w := bitrow.Open()
	w.Bytes("abc")
	copied := *w
	return []*bitrow.Writer{nil, {}, new(bitrow.Writer), &copied}
}

func TestNoWriter(t *testing.T) {
	counts := append(badCounts(), 0, 1, 8, 32)
	for i, w := range noWriters() {
		for _, n := range counts {
			for _, v := range []int{0, 1, -1, math.MinInt, math.MaxInt} {
				if e := w.Put(v, n); e != api.ErrNil {
					t.Errorf("writer %d: Put(%d, %d) = %d; want ErrNil", i, v, n, e)
				}
				if e := w.Code(v, n); e != api.ErrNil {
					t.Errorf("writer %d: Code(%d, %d) = %d; want ErrNil", i, v, n, e)
				}
			}
		}
		w.Align()
		w.Bytes("")
		w.Bytes("abc")
		w.Align()
		if w.Len() != 0 || w.Text() != "" {
			t.Errorf("writer %d: Len and Text = %d, %q; want nothing", i, w.Len(), w.Text())
		}
	}
}

// A struct that was copied from a writer is none, and can't change the bytes of the writer.
func TestCopiedWriter(t *testing.T) {
	w := bitrow.Open()
	w.Bytes("abc")
	w.Put(1, 1)
	copied := *w
	copied.Put(1, 1)
	copied.Bytes("zzz")
	w.Put(0, 7)
	w.Bytes("d")
	checkWriter(t, w, rowOf("abc\x01d"))
}

func TestTurn(t *testing.T) {
	for n := range 33 {
		for _, v := range append(values(n), badNumbers(n)...) {
			if got, want := bitrow.Turn(v, n), numberOf(reversed(rowOfNumber(v, n))); got != want {
				t.Errorf("Turn(%d, %d) = %d; want %d", v, n, got, want)
			}
		}
	}
	for _, c := range []struct{ v, n, want int }{
		{0, 0, 0}, {1, 0, 0}, {-1, 0, 0}, {1, 1, 1}, {2, 1, 0}, {3, 2, 3}, {1, 3, 4}, {6, 4, 6}, {13, 4, 11},
		{-1, 5, 31}, {-1, 32, 1<<32 - 1}, {1, 32, 1 << 31}, {1 << 31, 32, 1}, {1 << 32, 32, 0},
		{math.MinInt, 32, 0}, {math.MaxInt, 32, 1<<32 - 1}, {math.MaxInt - 1, 32, 1<<31 - 1},
	} {
		if got := bitrow.Turn(c.v, c.n); got != c.want {
			t.Errorf("Turn(%d, %d) = %d; want %d", c.v, c.n, got, c.want)
		}
	}
}

func TestTurnBadCounts(t *testing.T) {
	for _, n := range badCounts() {
		for _, v := range []int{0, 1, 255, -1, 1 << 32, math.MinInt, math.MaxInt} {
			if got := bitrow.Turn(v, n); got != 0 {
				t.Errorf("Turn(%d, %d) = %d; want 0", v, n, got)
			}
		}
	}
}

func TestTurnTwice(t *testing.T) {
	for n := range 33 {
		for _, v := range values(n) {
			if got := bitrow.Turn(bitrow.Turn(v, n), n); got != v {
				t.Errorf("%d turned twice with %d bits = %d", v, n, got)
			}
		}
	}
}

func TestManyBits(t *testing.T) {
	w := bitrow.Open()
	w.Put(1, 1)
	for range 100000 {
		w.Put(1<<32-1, 32)
	}
	if want := strings.Repeat("\xff", 400000) + "\x01"; w.Len() != 3200001 || w.Text() != want {
		t.Errorf("%d bits, %d bytes", w.Len(), len(w.Text()))
	}
}
