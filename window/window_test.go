package window_test

import (
	"math"
	"strings"
	"testing"

	"collimator/api"
	"collimator/window"
)

// The chapter's example.
func TestExample(t *testing.T) {
	w := window.New("ab")
	if s, e := w.Copy(2, 5); s != "ababa" || e != api.OK {
		t.Errorf("Copy(2, 5) = %q, %d; want ababa", s, e)
	}
	if s := w.Last(3); s != "aba" {
		t.Errorf("Last(3) = %q; want aba", s)
	}
	if s, e := w.Copy(9, 1); s != "" || e != api.ErrDist {
		t.Errorf("Copy(9, 1) = %q, %d; want ErrDist", s, e)
	}
	if w.Len() != 7 || w.Last(9) != "abababa" {
		t.Errorf("the content has %d bytes: %q", w.Len(), w.Last(9))
	}
}

// checkNone expects that the methods of a window that is none do nothing and return that there is nothing.
func checkNone(t *testing.T, name string, w *window.Window) {
	t.Helper()
	for range 2 {
		w.Put("")
		w.Put("abc")
		w.Put(noise(40000))
		if n := w.Len(); n != 0 {
			t.Errorf("%s: Len = %d; want 0", name, n)
		}
		for _, n := range []int{0, 1, -1, 32768, math.MinInt, math.MaxInt} {
			if s := w.Last(n); s != "" {
				t.Errorf("%s: Last(%d) = %s; want nothing", name, n, brief(s))
			}
		}
		// ErrNil is told first, whatever else is wrong.
		for _, dist := range append(badDistances(), 1, 2, 3, 32768, 32769) {
			for _, n := range append(badSizes(), 0, 1, 65536) {
				if s, e := w.Copy(dist, n); s != "" || e != api.ErrNil {
					t.Errorf("%s: Copy(%d, %d) = %s, %d; want ErrNil", name, dist, n, brief(s), e)
				}
			}
		}
		if x := w.Twin(); x != nil {
			t.Errorf("%s: Twin = %p; want nil", name, x)
		}
		w.Clear()
	}
}

func TestNoWindow(t *testing.T) {
	checkNone(t, "nil", nil)
	checkNone(t, "the zero value", &window.Window{})
	checkNone(t, "a new one", new(window.Window))
	// The copy of a struct must not write into the bytes of the first one either.
	for _, n := range sizes() {
		first := newPair(t, noise(n))
		copied := *first.w
		checkNone(t, "a copy", &copied)
		first.check()
		first.put("behind")
		checkNone(t, "a copy", &copied)
		first.check()
	}
}

func TestPut(t *testing.T) {
	for _, n := range sizes() {
		newPair(t, noise(n))
		for _, more := range sizes() {
			p := newPair(t, noise(n))
			p.put(noise(more))
			p.put("")
			p.put("z")
		}
	}
}

func TestPutInPieces(t *testing.T) {
	for _, n := range sizes() {
		for _, pieces := range [][]int{{1}, {2}, {7}, {1000}, {4096}, {32767}, {32768}, {32769}, {1, 32767}, {32767, 1}, {1, 32768, 5}, {40000, 3}} {
			p := newPair(t, "")
			p.putInPieces(noise(n), pieces...)
			p.putInPieces(noise(70000), pieces...)
		}
	}
}

// The content is one byte short, just full and one byte over, and each byte that follows takes the place of the oldest one.
func TestPutByteByByte(t *testing.T) {
	p := newPair(t, noise(32760))
	for _, c := range []byte(noise(20)) {
		p.put(string([]byte{c}))
	}
	p.put(noise(32740))
	for _, c := range []byte(noise(40)) {
		p.put(string([]byte{c}))
	}
}

func TestLast(t *testing.T) {
	for _, n := range sizes() {
		p := newPair(t, noise(n))
		p.put("abc")
		for _, last := range []int{0, 1, 2, 3, 4, 5, n, n + 2, n + 3, n + 4, 32766, 32767, 32768, 32769, 65536, -1, -2, -32768, 1 << 32, -1 << 32, math.MinInt, math.MaxInt} {
			p.checkLast(last)
		}
		p.check()
	}
}

// Where the content goes round in the memory must not be seen: each number of last bytes, for contents that were pushed on by some bytes.
func TestLastOfEachNumber(t *testing.T) {
	for _, more := range []int{0, 1, 2, 16384, 32767} {
		p := newPair(t, noise(32768))
		p.putInPieces(noise(more), 5)
		whole := p.w.Last(32768)
		for n := 0; n <= 32768; n += 1 + n%17 {
			if p.w.Last(n) != whole[32768-n:] {
				t.Fatalf("after %d bytes more: Last(%d) is no end of the content", more, n)
			}
		}
	}
}

func TestCopy(t *testing.T) {
	for _, n := range []int{0, 1, 2, 3, 4, 5, 7, 8, 100, 258, 32767, 32768, 32769, 65535, 65536} {
		for _, size := range []int{1, 2, 5, 100, 32767, 32768, 32769, 65537} {
			content := min(size, 32768)
			for _, dist := range []int{1, 2, 3, 4, 99, content - 1, content} {
				if dist >= 1 && dist <= content {
					p := newPair(t, noise(size))
					p.copy(dist, n)
					p.copy(content, n)
					p.put("z")
				}
			}
		}
	}
}

// A copy may be of its own bytes, and longer than the content.
func TestCopyOverlaps(t *testing.T) {
	for _, c := range []struct {
		s       string
		dist, n int
		want    string
	}{
		{"a", 1, 4, "aaaa"},
		{"abc", 1, 3, "ccc"},
		{"abc", 2, 3, "bcb"},
		{"abc", 3, 3, "abc"},
		{"abc", 3, 2, "ab"},
		{"abc", 3, 8, "abcabcab"},
		{"abcde", 4, 9, "bcdebcdeb"},
		{"abcdefgh", 5, 0, ""},
		{strings.Repeat("x", 40000) + "ab", 2, 5, "ababa"},
		{strings.Repeat("x", 40000) + "ab", 3, 7, "xabxabx"},
		{"ab" + strings.Repeat("x", 32766), 32768, 4, "abxx"},
	} {
		if got := newPair(t, c.s).copy(c.dist, c.n); got != c.want {
			t.Errorf("Copy(%d, %d) of %s = %q; want %q", c.dist, c.n, brief(c.s), got, c.want)
		}
	}
}

func TestCopyErrors(t *testing.T) {
	for _, size := range sizes() {
		p := newPair(t, noise(size))
		content := min(size, 32768)
		distances := []int{1, content, content + 1, 32768, 32769, math.MaxInt}
		for _, n := range badSizes() {
			for _, dist := range append(badDistances(), distances...) {
				p.noCopy(dist, n, api.ErrArg)
			}
		}
		for _, n := range []int{0, 1, 258, 65536} {
			for _, dist := range badDistances() {
				p.noCopy(dist, n, api.ErrArg)
			}
			for _, dist := range []int{content + 1, content + 2, 32769, 65536, 1<<32 + 1, math.MaxInt - 1, math.MaxInt} {
				p.noCopy(dist, n, api.ErrDist)
			}
		}
		p.put("ab")
		p.copy(2, 3)
	}
}

// A full content has 32768 bytes, however many were appended.
func TestCopyFromFull(t *testing.T) {
	p := newPair(t, noise(32767))
	p.noCopy(32768, 1, api.ErrDist)
	p.put("z")
	p.copy(32768, 1)
	p.noCopy(32769, 1, api.ErrDist)
	p.copy(32768, 0)
	p.copy(32768, 65536)
	p.noCopy(32769, 0, api.ErrDist)
	p.noCopy(32769, 65536, api.ErrDist)
	p.copy(32767, 32768)
	p.copy(1, 65536)
	p.noCopy(32769, 1, api.ErrDist)
}

func TestClear(t *testing.T) {
	for _, size := range sizes() {
		p := newPair(t, noise(size))
		for _, more := range sizes() {
			p.clear()
			p.noCopy(1, 0, api.ErrDist)
			p.noCopy(1, 1, api.ErrDist)
			p.clear()
			p.put(noise(more))
			p.noCopy(min(more, 32768)+1, 1, api.ErrDist)
			p.put("abc")
			p.copy(3, 5)
			p.copy(min(len(p.text), 32768), 258)
		}
	}
}

// A window that was cleared, filled by bytes and cleared again begins anew.
func TestClearAndCopy(t *testing.T) {
	p := newPair(t, noise(50000))
	p.clear()
	p.put("ab")
	p.copy(2, 65536)
	p.copy(1, 40000)
	p.clear()
	p.put("c")
	p.copy(1, 2)
	p.noCopy(4, 1, api.ErrDist)
}

func TestTwin(t *testing.T) {
	for _, size := range sizes() {
		p := newPair(t, noise(size))
		q := p.twin()
		p.put("first")
		q.check()
		q.put("second one")
		p.check()
		p.copy(5, 300)
		q.check()
		q.copy(10, 65536)
		p.check()
		r := q.twin()
		q.clear()
		p.check()
		r.check()
		q.put("abc")
		r.put(noise(40000))
		p.clear()
		q.check()
		r.check()
		p.put("xyz")
		p.copy(3, 3)
		q.check()
		r.check()
	}
}

func TestTwinOfEmpty(t *testing.T) {
	p := newPair(t, noise(40000))
	p.clear()
	q := p.twin()
	q.noCopy(1, 1, api.ErrDist)
	q.put("ab")
	p.noCopy(1, 1, api.ErrDist)
	p.put("c")
	q.copy(2, 3)
	p.check()
}
