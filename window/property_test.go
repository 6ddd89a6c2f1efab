package window_test

import (
	"strings"
	"testing"
)

// P7.4: Copy with the distance 1 returns the last byte n times.
func TestDistanceOne(t *testing.T) {
	for c := range 256 {
		for _, size := range []int{0, 1, 2, 300} {
			p := newPair(t, noise(size)+string([]byte{byte(c)}))
			for _, n := range []int{0, 1, 2, 3, 255, 258} {
				if got := p.copy(1, n); got != strings.Repeat(string([]byte{byte(c)}), n) {
					t.Errorf("Copy(1, %d) behind %d bytes and %d = %s", n, size, c, brief(got))
				}
			}
		}
	}
	for _, size := range []int{32766, 32767, 32768, 70000} {
		p := newPair(t, noise(size)+"z")
		for _, n := range []int{0, 1, 258, 32767, 32768, 32769, 65535, 65536} {
			if got := p.copy(1, n); got != strings.Repeat("z", n) {
				t.Errorf("Copy(1, %d) behind %d bytes = %s", n, size, brief(got))
			}
		}
	}
}

// P7.4: the bytes that Copy returns are those that the whole text has dist bytes before. Here the text is held against itself, without the model's copy.
func TestWholeText(t *testing.T) {
	for seed := range uint64(20) {
		roll := dice(seed)
		p := newPair(t, noise(1+roll(70000)))
		for range 60 {
			dist := 1 + roll(min(len(p.text), 32768))
			if roll(3) == 0 {
				dist = 1 + roll(min(dist, 300))
			}
			from := len(p.text)
			n := roll([]int{4, 300, 65537}[roll(3)])
			got := p.copy(dist, n)
			if whole := string(p.text[:from]) + got; got != whole[from-dist:][:n] {
				t.Fatalf("seed %d: Copy(%d, %d) behind %d bytes = %s", seed, dist, n, from, brief(got))
			}
			if roll(2) == 0 {
				p.put(noise(roll(300)))
			}
		}
	}
}

// Fixed pseudo-random sequences of all calls, with twins that go on apart.
func TestSequences(t *testing.T) {
	for seed := range uint64(60) {
		roll := dice(1000 + seed)
		pairs := []*pair{newPair(t, noise(roll(40000)))}
		for range 60 {
			p := pairs[roll(len(pairs))]
			step(p, roll)
			if roll(8) == 0 && len(pairs) < 4 {
				pairs = append(pairs, p.twin())
			}
		}
		for _, p := range pairs {
			p.check()
		}
	}
}

// step makes one call on a window.
func step(p *pair, roll func(limit int) int) {
	content := p.w.Len()
	switch kind := roll(20); {
	case kind == 0:
		p.clear()
	case kind < 7:
		p.put(noise(roll([]int{3, 300, 33000, 70000}[roll(4)])))
	case kind < 18 && content > 0:
		dist := 1 + roll(content)
		if roll(3) == 0 {
			dist = 1 + roll(min(content, 10))
		}
		p.copy(dist, roll([]int{4, 259, 65537}[roll(3)]))
	default:
		p.checkLast(roll(40000))
	}
}

// The content does not depend on how the text was divided among the calls.
func TestDivided(t *testing.T) {
	text := noise(90000)
	whole := newPair(t, text).w.Last(32768)
	for seed := range uint64(10) {
		roll := dice(2000 + seed)
		p := newPair(t, "")
		p.putInPieces(text, roll(40000), 1+roll(40000), roll(9), 1+roll(3), roll(500))
		if p.w.Last(32768) != whole {
			t.Errorf("seed %d: another content", seed)
		}
	}
}
