package window_test

import (
	"math"
	"slices"
	"strconv"
	"testing"

	"collimator/api"
	"collimator/window"
)

// pair is a window and its model: the whole text that was appended since the content was last empty.
type pair struct {
	t    *testing.T
	w    *window.Window
	text []byte
}

func newPair(t *testing.T, s string) *pair {
	t.Helper()
	p := &pair{t: t, w: window.New(s), text: []byte(s)}
	if p.w == nil {
		t.Fatalf("New of %d bytes is nil", len(s))
	}
	p.check()
	return p
}

// content is the last 32768 bytes of the text, or fewer.
func (p *pair) content() string {
	return string(p.text[max(0, len(p.text)-32768):])
}

// check compares all that the window tells without changing it.
func (p *pair) check() {
	p.t.Helper()
	content := p.content()
	if p.w.Len() != len(content) {
		p.t.Fatalf("after %d bytes: Len = %d; want %d", len(p.text), p.w.Len(), len(content))
	}
	for _, n := range []int{len(content), 1, len(content) / 2, math.MaxInt, 0, -1} {
		p.checkLast(n)
	}
}

// checkLast expects the last n bytes. (The first fault ends the test: the others would be thousands.)
func (p *pair) checkLast(n int) {
	p.t.Helper()
	want := p.content()
	if n < len(want) {
		want = want[len(want)-max(n, 0):]
	}
	if got := p.w.Last(n); got != want {
		p.t.Fatalf("after %d bytes: Last(%d) = %s; want %s", len(p.text), n, brief(got), brief(want))
	}
}

func (p *pair) put(s string) {
	p.t.Helper()
	p.w.Put(s)
	p.text = append(p.text, s...)
	p.check()
}

func (p *pair) clear() {
	p.t.Helper()
	p.w.Clear()
	p.text = nil
	p.check()
}

// copy expects that the bytes are appended one by one.
func (p *pair) copy(dist, n int) string {
	p.t.Helper()
	from := len(p.text)
	for range n {
		p.text = append(p.text, p.text[len(p.text)-dist])
	}
	want := string(p.text[from:])
	got, e := p.w.Copy(dist, n)
	if got != want || e != api.OK {
		p.t.Fatalf("after %d bytes: Copy(%d, %d) = %s, %d; want %s", from, dist, n, brief(got), e, brief(want))
	}
	p.check()
	return got
}

// noCopy expects an error, and that nothing changes.
func (p *pair) noCopy(dist, n int, want api.Errno) {
	p.t.Helper()
	if got, e := p.w.Copy(dist, n); got != "" || e != want {
		p.t.Fatalf("after %d bytes: Copy(%d, %d) = %s, %d; want the error %d", len(p.text), dist, n, brief(got), e, want)
	}
	p.check()
}

func (p *pair) twin() *pair {
	p.t.Helper()
	q := &pair{t: p.t, w: p.w.Twin(), text: slices.Clone(p.text)}
	if q.w == nil || q.w == p.w {
		p.t.Fatalf("after %d bytes: Twin = %p of %p", len(p.text), q.w, p.w)
	}
	q.check()
	p.check()
	return q
}

// putInPieces puts s in pieces of these sizes, which are taken in turn until nothing is left.
func (p *pair) putInPieces(s string, sizes ...int) {
	p.t.Helper()
	for i := 0; len(s) > 0; i++ {
		n := min(sizes[i%len(sizes)], len(s))
		p.w.Put(s[:n])
		p.text = append(p.text, s[:n]...)
		s = s[n:]
	}
	p.check()
}

// brief is what fits in a line.
func brief(s string) string {
	const most = 40
	if len(s) <= most {
		return strconv.Quote(s)
	}
	return strconv.Quote(s[:most/2]) + " .. " + strconv.Quote(s[len(s)-most/2:])
}

// dice returns a sequence of numbers from 0 to limit - 1 that is the same in each run.
func dice(seed uint64) func(limit int) int {
	return func(limit int) int {
		seed = seed*6364136223846793005 + 1442695040888963407
		return int(seed >> 31 % uint64(limit))
	}
}

// noise is a string of n bytes without a pattern.
func noise(n int) string {
	roll := dice(uint64(n) + 7)
	s := make([]byte, n)
	for i := range s {
		s[i] = byte(roll(256))
	}
	return string(s)
}

// sizes are numbers of bytes about those at which a content is full.
func sizes() []int {
	return []int{0, 1, 2, 3, 100, 32766, 32767, 32768, 32769, 32770, 65535, 65536, 65537, 100001}
}

// badSizes are numbers of bytes that can't be copied, with ones that a narrower number would confuse with a good one.
func badSizes() []int {
	return []int{-1, -2, -65536, -1 << 32, math.MinInt, math.MinInt + 1, 65537, 65538, 1 << 17, 1 << 32, 1<<32 + 1, math.MaxInt - 1, math.MaxInt}
}

// badDistances are below 1.
func badDistances() []int {
	return []int{0, -1, -2, -32768, 1 - 1<<32, math.MinInt, math.MinInt + 1}
}
