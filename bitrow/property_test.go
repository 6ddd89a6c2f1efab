package bitrow_test

import (
	"testing"

	"collimator/api"
	"collimator/bitrow"
)

// item is one thing that is written: a number, a code, bytes, or an alignment.
type item struct {
	kind, v, n int
	text       string
}

const (
	putItem = iota
	codeItem
	bytesItem
	alignItem
	itemKinds
)

func randomItem(roll func(int) int) item {
	n := roll(33)
	return item{roll(itemKinds), roll(1 << n), n, noise(roll(6))}
}

func write(t *testing.T, w *bitrow.Writer, x item) {
	t.Helper()
	e := api.OK
	switch x.kind {
	case putItem:
		e = w.Put(x.v, x.n)
	case codeItem:
		e = w.Code(x.v, x.n)
	case bytesItem:
		w.Bytes(x.text)
	case alignItem:
		w.Align()
	}
	if e != api.OK {
		t.Fatalf("writing %+v: %d", x, e)
	}
}

func readBack(t *testing.T, r *bitrow.Reader, x item) {
	t.Helper()
	switch x.kind {
	case putItem:
		if v, e := r.Bits(x.n); v != x.v || e != api.OK {
			t.Fatalf("%+v is read back as %d, %d", x, v, e)
		}
	case codeItem:
		if v, e := r.Bits(x.n); bitrow.Turn(v, x.n) != x.v || e != api.OK {
			t.Fatalf("%+v is read back as %d, %d", x, v, e)
		}
	case bytesItem:
		r.Align()
		if s, e := r.Bytes(len(x.text)); s != x.text || e != api.OK {
			t.Fatalf("%+v is read back as %q, %d", x, s, e)
		}
	case alignItem:
		r.Align()
	}
}

// What was written is read back, item by item, at the same positions.
func TestReadBack(t *testing.T) {
	for seed := range 300 {
		roll := dice(uint64(seed))
		w := bitrow.Open()
		var items []item
		var ends []int
		for range roll(60) {
			x := randomItem(roll)
			write(t, w, x)
			items, ends = append(items, x), append(ends, w.Len())
		}
		r := newReader(t, w.Text(), 0)
		for i, x := range items {
			readBack(t, r, x)
			if r.At() != ends[i] {
				t.Fatalf("seed %d: item %d ends at %d; want %d", seed, i, r.At(), ends[i])
			}
		}
		if left := 8*len(w.Text()) - w.Len(); r.Left() != left || left > 7 || r.Peek(8) != 0 {
			t.Fatalf("seed %d: %d bits are left, %d; want %d", seed, r.Left(), r.Peek(8), left)
		}
	}
}

// Bits in two parts are the bits at once, wherever the reader stands and the parts are divided.
func TestTwoParts(t *testing.T) {
	s := noise(9)
	for at := range 8*len(s) + 1 {
		for n := range 33 {
			for m := range 33 - n {
				checkTwoParts(t, newReader(t, s, at), n, m)
			}
		}
	}
}

func checkTwoParts(t *testing.T, r *bitrow.Reader, n, m int) {
	t.Helper()
	from := r.At()
	once := r.Copy()
	whole, wholeE := once.Bits(n + m)
	low, lowE := r.Bits(n)
	if lowE != api.OK {
		if wholeE != api.ErrShort {
			t.Errorf("Bits(%d) at %d is short, but not Bits(%d)", n, from, n+m)
		}
		return
	}
	high, highE := r.Bits(m)
	if highE != wholeE {
		t.Errorf("Bits(%d) and Bits(%d) at %d end with %d; Bits(%d) with %d", n, m, from, highE, n+m, wholeE)
		return
	}
	if highE == api.OK && (whole != low+high<<n || r.At() != once.At()) {
		t.Errorf("Bits(%d) and Bits(%d) at %d = %d, %d; Bits(%d) = %d", n, m, from, low, high, n+m, whole)
	}
}

// A number that is written in two parts is the number written at once.
func TestWriteTwoParts(t *testing.T) {
	for before := range 8 {
		for n := range 33 {
			for _, v := range values(n) {
				for cut := range n + 1 {
					once, _ := writerAfter(t, before)
					parts, _ := writerAfter(t, before)
					once.Put(v, n)
					parts.Put(v%(1<<cut), cut)
					parts.Put(v>>cut, n-cut)
					if once.Len() != parts.Len() || once.Text() != parts.Text() {
						t.Fatalf("%d in %d bits, cut at %d, behind %d bits: %q; want %q", v, n, cut, before, parts.Text(), once.Text())
					}
				}
			}
		}
	}
}

// The same calls on other objects have the same results.
func TestSameCallsSameResults(t *testing.T) {
	texts := map[string]int{}
	for range 5 {
		roll := dice(99)
		w := bitrow.Open()
		for range 200 {
			write(t, w, randomItem(roll))
		}
		texts[w.Text()]++
	}
	if len(texts) != 1 {
		t.Errorf("%d texts of the same calls; want 1", len(texts))
	}
}

func FuzzReader(f *testing.F) {
	f.Add("\x05\x80", 0, 3, 5)
	f.Add("", 0, 0, 0)
	f.Add("abc", 24, 32, 33)
	f.Add("abc", -1, -1, 1<<62)
	f.Fuzz(func(t *testing.T, s string, at, n, m int) {
		r, e := bitrow.New(s, at)
		if good := at >= 0 && at <= 8*len(s); good != (e == api.OK) || good != (r != nil) {
			t.Fatalf("New of %d bytes at %d: %d", len(s), at, e)
		}
		if r == nil {
			return
		}
		if n >= 0 && n <= 32 && m >= 0 && n+m <= 32 {
			checkTwoParts(t, r.Copy(), n, m)
		}
		peeked := r.Peek(n)
		if v, e := r.Bits(n); e == api.OK && (v != peeked || r.At() != at+n) || e != api.OK && (v != 0 || r.At() != at) {
			t.Errorf("Bits(%d) at %d = %d, %d and goes to %d; Peek = %d", n, at, v, e, r.At(), peeked)
		}
		r.Align()
		from := r.At() / 8
		if got, e := r.Bytes(m); e == api.OK && (got != s[from:from+m] || r.At() != 8*(from+m)) || e != api.OK && (got != "" || r.At() != 8*from) {
			t.Errorf("Bytes(%d) at %d = %q, %d", m, 8*from, got, e)
		}
	})
}
