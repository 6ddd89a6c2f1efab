package charset_test

import (
	"encoding/binary"
	"fmt"
	"math/rand"
	"strings"
	"testing"

	"collimator/api"
	"collimator/charset"
)

// checkLaws expects what holds for all sets (P14.4).
func checkLaws(t *testing.T, a, b api.Set) {
	t.Helper()
	if charset.Not(charset.Not(a)) != a {
		t.Errorf("%x is not the complement of its complement", a)
	}
	if charset.Not(charset.Or(a, b)) != charset.And(charset.Not(a), charset.Not(b)) {
		t.Errorf("%x, %x: the complement of the union is not the intersection of the complements", a, b)
	}
	if charset.Count(a) != len(charset.Bytes(a)) {
		t.Errorf("%x: Count is %d, but there are %d bytes", a, charset.Count(a), len(charset.Bytes(a)))
	}
	if charset.Of(charset.Bytes(a)) != a {
		t.Errorf("%x is not the set of its bytes", a)
	}
	if got := readShown(t, charset.Show(a)); got != a {
		t.Errorf("%x is shown as %s, which is %x", a, charset.Show(a), got)
	}
}

// readShown is the set that a notation represents: a byte, or a list of bytes and of runs in brackets.
func readShown(t *testing.T, s string) api.Set {
	t.Helper()
	body, listed := strings.CutPrefix(s, "[")
	if !listed {
		c, rest := readByte(t, s)
		if rest != "" {
			t.Errorf("%s: %q after one byte", s, rest)
		}
		return modelOf(string([]byte{c})).set()
	}
	if !strings.HasSuffix(body, "]") {
		t.Fatalf("%s is not closed", s)
	}
	body, inverted := strings.CutPrefix(body[:len(body)-1], "^")
	m := readList(t, body)
	if inverted {
		m = m.not()
	}
	return m.set()
}

// readList also expects that the list is in ascending order, and that no run is shorter than three bytes or goes on behind its end.
func readList(t *testing.T, s string) members {
	t.Helper()
	var m members
	next := 0
	for body := s; body != ""; {
		from, rest := readByte(t, body)
		to := from
		if after, run := strings.CutPrefix(rest, "-"); run {
			to, rest = readByte(t, after)
			if to < from+2 || from > 0 && m[from-1] {
				t.Errorf("%s has the run from %d to %d", s, from, to)
			}
		} else if from > 1 && m[from-1] && m[from-2] {
			t.Errorf("%s: %d is not part of the run before it", s, from)
		}
		if int(from) < next {
			t.Errorf("%s: %d is not in ascending order", s, from)
		}
		for c := int(from); c <= int(to); c++ {
			m[c] = true
		}
		next = int(to) + 1
		body = rest
	}
	return m
}

// readByte reads the notation of a byte and returns what follows it.
func readByte(t *testing.T, s string) (byte, string) {
	t.Helper()
	for c := range 256 {
		if rest, ok := strings.CutPrefix(s, modelByte(c)); ok {
			return byte(c), rest
		}
	}
	t.Fatalf("%q begins with the notation of no byte", s)
	return 0, ""
}

// P14.4 for random sets, each of which is held against its model.
func TestLaws(t *testing.T) {
	rng := rand.New(rand.NewSource(14))
	for i := range 2000 {
		m, n := someModel(rng), someModel(rng)
		checkLaws(t, m.set(), n.set())
		checkSet(t, fmt.Sprintf("set %d", i), m.set(), m)
		if charset.Or(m.set(), n.set()) != m.or(n).set() || charset.And(m.set(), n.set()) != m.and(n).set() {
			t.Errorf("%x, %x: the union or the intersection is another one", m.set(), n.set())
		}
	}
}

// P14.4 for the sets at the ends: empty, full, and with bytes at both ends of each word.
func TestLawsAtEnds(t *testing.T) {
	for _, m := range someSets() {
		for _, n := range someSets() {
			checkLaws(t, m.set(), n.set())
		}
	}
}

// P14.4 for all ranges of 1 to 256 bytes.
func TestLawsOfRanges(t *testing.T) {
	for from := 0; from < 256; from += 3 {
		for to := from; to < 256; to += 5 {
			a := charset.Range(byte(from), byte(to))
			checkLaws(t, a, charset.Range(byte(255-to), byte(from)))
		}
	}
}

// P14.4 for words of any bits.
func FuzzLaws(f *testing.F) {
	f.Add("", "")
	f.Add(strings.Repeat("\xff", 32), strings.Repeat("\x55", 32))
	f.Add("\x01\x00\x00\x00\x00\x00\x00\x80", "abcdefgh")
	f.Fuzz(func(t *testing.T, s, u string) {
		a, b := setOfBits(s), setOfBits(u)
		checkLaws(t, a, b)
		m := where(func(c int) bool { return a[c/64]>>(c%64)&1 == 1 })
		checkSet(t, "the set", a, m)
		checkSet(t, "Of", charset.Of(s), modelOf(s))
	})
}

// setOfBits takes the words of a set from the first 32 bytes of a text.
func setOfBits(s string) api.Set {
	var raw [32]byte
	copy(raw[:], s)
	var a api.Set
	for i := range a {
		a[i] = binary.LittleEndian.Uint64(raw[8*i:])
	}
	return a
}
