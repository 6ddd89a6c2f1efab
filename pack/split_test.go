package pack_test

import (
	"math"
	"slices"
	"strings"
	"testing"

	"collimator/api"
	"collimator/pack"
)

// P11.3, with the chapter's example.
func TestOps(t *testing.T) {
	checkOps(t, "")
	checkOps(t, "a", lits("a")...)
	checkOps(t, "aa", lits("aa")...)
	checkOps(t, "aaa", lits("aaa")...)
	checkOps(t, "ab", lits("ab")...)
	checkOps(t, "abc", lits("abc")...)
	checkOps(t, "abcab", lits("abcab")...)
	checkOps(t, "aaaa", append(lits("a"), copied(3, 1))...)
	checkOps(t, "aaaaa", append(lits("a"), copied(4, 1))...)
	checkOps(t, "ababa", append(lits("ab"), copied(3, 2))...)
	checkOps(t, "abcabc", append(lits("abc"), copied(3, 3))...)
	checkOps(t, "abcabcabX", append(lits("abc"), copied(5, 3), api.Op{Lit: 'X'})...)
	checkOps(t, "\x00\x00\x00\x00\xff", api.Op{}, copied(3, 1), api.Op{Lit: 255})
	checkOps(t, noise(20), lits(noise(20))...)
}

// A copy of two bytes is none.
func TestShortestCopy(t *testing.T) {
	checkOps(t, "abXabYab", lits("abXabYab")...)
	checkOps(t, "abcXabc", append(lits("abcX"), copied(3, 4))...)
	checkOps(t, "abcXabcY", append(lits("abcX"), copied(3, 4), api.Op{Lit: 'Y'})...)
	checkOps(t, "abcXab", lits("abcXab")...)
}

// The longest copy has 258 bytes; the rest is copied anew.
func TestLongestCopy(t *testing.T) {
	for n := range 262 {
		want := []api.Op{{Lit: 'z'}}
		switch {
		case n < 3:
			want = lits(strings.Repeat("z", 1+n))
		case n <= 258:
			want = append(want, copied(n, 1))
		case n <= 260:
			want = append(append(want, copied(258, 1)), lits(strings.Repeat("z", n-258))...)
		default:
			want = append(want, copied(258, 1), copied(3, 1))
		}
		checkOps(t, strings.Repeat("z", 1+n), want...)
	}
	checkOps(t, strings.Repeat("z", 1+258+258+258), api.Op{Lit: 'z'}, copied(258, 1), copied(258, 1), copied(258, 1))
	s := distinct(250)
	checkOps(t, s+s+s[:8]+"\xff", append(lits(s), copied(258, 250), api.Op{Lit: 255})...)
	checkOps(t, s+s+s[:9]+"\xff", append(append(lits(s), copied(258, 250)), lits(s[8:9]+"\xff")...)...)
}

// distinct is n bytes, each of which occurs once, up to 255.
func distinct(n int) string {
	s := make([]byte, n)
	for i := range s {
		s[i] = byte(i)
	}
	return string(s)
}

// What is 256 bytes before is copied; what is 257 before is not.
func TestReach(t *testing.T) {
	for _, n := range []int{3, 4, 10} {
		for gap := 240; gap < 256; gap++ {
			piece := strings.Repeat("x", n-1) + "y"
			between := distinct('x')[:100] + distinct(200)['z':] + distinct(100)
			s := piece + between[:gap-n] + piece
			want := modelOps(piece + between[:gap-n])
			checkOps(t, s, append(want, copied(n, gap))...)
		}
	}
	all := distinct(256)
	checkOps(t, all+all[:3], append(lits(all), copied(3, 256))...)
	checkOps(t, all+all, append(lits(all), copied(256, 256))...)
	checkOps(t, all+all+all, append(lits(all), copied(258, 256), copied(254, 256))...)
	checkOps(t, all+"\x00\x00"+all[1:4], lits(all+"\x00\x00"+all[1:4])...)
	for gap := 257; gap < 300; gap++ {
		s := all + all[255:] + strings.Repeat("\xff\xfe", 50)[:gap-257] + all[:10]
		checkOps(t, s, modelOps(s)...)
		if !slices.Equal(pack.Ops(s)[len(pack.Ops(s))-10:], lits(all[:10])) {
			t.Errorf("bytes from %d before are copied", gap)
		}
	}
}

// The longest copy is chosen, wherever it is; of several ones the nearest.
func TestChoice(t *testing.T) {
	checkOps(t, "abcdXabcYabcd", append(append(lits("abcdX"), copied(3, 5)), append(lits("Y"), copied(4, 9))...)...)
	checkOps(t, "abcXabcdYabcd", append(lits("abcX"), copied(3, 4), api.Op{Lit: 'd'}, api.Op{Lit: 'Y'}, copied(4, 5))...)
	checkOps(t, "abcXabcYabcZ", append(lits("abcX"), copied(3, 4), api.Op{Lit: 'Y'}, copied(3, 4), api.Op{Lit: 'Z'})...)
	checkOps(t, "abcXabcYabcX", append(lits("abcX"), copied(3, 4), api.Op{Lit: 'Y'}, copied(4, 8))...)
	checkOps(t, "aaaaXaaaaXaa", append(lits("a"), copied(3, 1), api.Op{Lit: 'X'}, copied(7, 5))...)
	// The nearer one overlaps what it produces.
	checkOps(t, "ababXbababab", append(lits("ababX"), copied(3, 4), copied(4, 2))...)
}

// From left to right: a copy is used at once, even if a longer one begins at the next byte.
func TestGreedy(t *testing.T) {
	checkOps(t, "bcdeXabcYabcde", append(lits("bcdeXa"), append(lits("bcY"), append([]api.Op{copied(3, 4)}, lits("de")...)...)...)...)
}

// P11.3 for all short texts of few bytes, and for long ones.
func TestAllShortTexts(t *testing.T) {
	for _, c := range []struct {
		bytes string
		size  int
	}{{"a", 10}, {"ab", 13}, {"abc", 8}, {"\x00\xff\x80\x7f", 7}} {
		texts := []string{""}
		for range c.size {
			longer := []string{}
			for _, s := range texts {
				checkOps(t, s, modelOps(s)...)
				for i := range len(c.bytes) {
					longer = append(longer, s+c.bytes[i:i+1])
				}
			}
			texts = longer
		}
		for _, s := range texts {
			checkOps(t, s, modelOps(s)...)
		}
	}
}

// P11.4: the pieces and their kinds in turn.
func TestSplit(t *testing.T) {
	checkSplit(t, "aaaabbbbcc", 4, "aaaa", "bbbb", "cc")
	checkSplit(t, "aaaabbbbcccc", 4, "aaaa", "bbbb", "cccc")
	checkSplit(t, "aaaabbbbccccd", 4, "aaaa", "bbbb", "cccc", "d")
	checkSplit(t, "abc", 1, "a", "b", "c")
	checkSplit(t, "abcdef", 2, "ab", "cd", "ef")
	checkSplit(t, "abcdef", 3, "abc", "def")
	checkSplit(t, "abcdef", 5, "abcde", "f")
	checkSplit(t, "abcdef", 6, "abcdef")
	checkSplit(t, "abcdef", 7, "abcdef")
	checkSplit(t, "abcdef", 65535, "abcdef")
	checkSplit(t, "a", 1, "a")
	checkSplit(t, "a", 2, "a")
}

// P11.4: one empty piece.
func TestSplitEmpty(t *testing.T) {
	for _, n := range []int{math.MinInt, -1, 0, 1, 2, 65535, 65536, math.MaxInt} {
		checkSplit(t, "", n, "")
	}
}

// P11.4: 65535 takes the place of what can't be a size.
func TestSplitSizes(t *testing.T) {
	s := noise(70000) + strings.Repeat("abcab", 20000)
	for _, n := range []int{math.MinInt, -65535, -1, 0, 65535, 65536, 65537, 1 << 32, 1<<32 + 1, math.MaxInt} {
		checkSplit(t, s, n, s[:65535], s[65535:131070], s[131070:])
		checkSplit(t, s[:65535], n, s[:65535])
		checkSplit(t, s[:65536], n, s[:65535], s[65535:65536])
		checkSplit(t, s[:131070], n, s[:65535], s[65535:131070])
		checkSplit(t, s[:131071], n, s[:65535], s[65535:131070], s[131070:131071])
		checkSplit(t, "abc", n, "abc")
	}
	checkSplit(t, s[:65535], 65534, s[:65534], s[65534:65535])
}

// P11.4: the ops of a piece do not reach back into the piece before it.
func TestSplitOpsOfThePieceAlone(t *testing.T) {
	l := pack.Split("abcabcabcabc", 3)
	if len(l) != 4 || !slices.Equal(l[1].Ops, lits("abc")) || !slices.Equal(l[3].Ops, lits("abc")) {
		t.Errorf("%s", briefParts(l))
	}
	checkSplit(t, "abcabcabcabc", 3, "abc", "abc", "abc", "abc")
	l = pack.Split("xxxxaaaa", 4)
	if len(l) != 2 || !slices.Equal(l[1].Ops, append(lits("a"), copied(3, 1))) {
		t.Errorf("%s", briefParts(l))
	}
}

// R4: results are new memory, also behind their ends.
func TestResultsAreNew(t *testing.T) {
	s := strings.Repeat("abcabcab", 30)
	want := modelOps(s)
	first := pack.Ops(s)
	spoil(first)
	checkOps(t, s, want...)

	l := pack.Split(s, 20)
	for i := range l {
		spoil(l[i].Ops)
		for j := i + 1; j < len(l); j++ {
			if j%2 == 1 && !slices.Equal(l[j].Ops, modelOps(s[20*j:min(len(s), 20*j+20)])) {
				t.Fatalf("the ops of the part %d share memory with those of the part %d", j, i)
			}
		}
	}
	if again := pack.Split(s, 20); !slices.Equal(again[1].Ops, modelOps(s[20:40])) {
		t.Error("a second result shares memory with the first one")
	}
}

// spoil overwrites ops and all that there is room for behind them.
func spoil(l []api.Op) {
	l = l[:cap(l)]
	for i := range l {
		l[i] = copied(-1, -1)
	}
}
