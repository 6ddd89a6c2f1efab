package charset_test

import (
	"fmt"
	"strings"
	"testing"

	"collimator/api"
	"collimator/charset"
)

// P14.1: the bytes of a text, in any order and any number of times.
func TestOf(t *testing.T) {
	for _, s := range []string{
		"", "a", "\x00", "\xff", "ab", "ba", "hello", "aaaa", "abcabcab", edges(), every(), every() + every(),
		"\xff\xfe\xff\x00", "\xc3\x28", "\xed\xa0\x80", "äöü", "世界", "\xf0\x9f\x92\xa9", "\x80\x80\x80", "\xef\xbf\xbd",
		strings.Repeat("zyx\x80", 5000),
	} {
		checkSet(t, fmt.Sprintf("Of(%.20q)", s), charset.Of(s), modelOf(s))
	}
}

// P14.1: the words of a set, written out.
func TestWords(t *testing.T) {
	for s, want := range map[string]api.Set{
		"":      {},
		"\x00":  {1, 0, 0, 0},
		"\x3f":  {1 << 63, 0, 0, 0},
		"@":     {0, 1, 0, 0},
		"a":     {0, 1 << 33, 0, 0},
		"\x7f":  {0, 1 << 63, 0, 0},
		"\x80":  {0, 0, 1, 0},
		"\xbf":  {0, 0, 1 << 63, 0},
		"\xc0":  {0, 0, 0, 1},
		"\xff":  {0, 0, 0, 1 << 63},
		edges(): {1<<63 | 1, 1<<63 | 1, 1<<63 | 1, 1<<63 | 1},
		every(): {1<<64 - 1, 1<<64 - 1, 1<<64 - 1, 1<<64 - 1},
	} {
		if got := charset.Of(s); got != want {
			t.Errorf("Of(%q) is %x; want %x", s, got, want)
		}
	}
}

// P14.1: each byte alone.
func TestOfEachByte(t *testing.T) {
	for c := range 256 {
		s := string([]byte{byte(c)})
		want := where(func(d int) bool { return d == c })
		checkSet(t, fmt.Sprintf("Of(%q)", s), charset.Of(s), want)
		checkSet(t, fmt.Sprintf("Of(%q)", s+s), charset.Of(s+s), want)
		checkSet(t, fmt.Sprintf("Range(%d, %d)", c, c), charset.Range(byte(c), byte(c)), want)
	}
}

// P14.1: ranges within a word and over several, from 0, to 255, and the wrong way round.
func TestRange(t *testing.T) {
	for _, x := range []struct{ from, to byte }{
		{'a', 'a'}, {'a', 'b'}, {'a', 'e'}, {'0', '9'}, {0, 0}, {0, 1}, {0, 63}, {0, 64}, {0, 254}, {0, 255},
		{1, 254}, {1, 255}, {63, 64}, {64, 127}, {60, 70}, {60, 130}, {60, 200}, {127, 128}, {128, 255}, {191, 192}, {192, 255},
		{254, 255}, {255, 255}, {255, 0}, {1, 0}, {255, 254}, {5, 4}, {200, 5}, {64, 63}, {'z', 'a'}, {128, 0}, {255, 127},
	} {
		want := where(func(c int) bool { return int(x.from) <= c && c <= int(x.to) })
		checkSet(t, fmt.Sprintf("Range(%d, %d)", x.from, x.to), charset.Range(x.from, x.to), want)
	}
}

// P14.1: all pairs of a first and a last byte.
func TestEveryRange(t *testing.T) {
	for from := range 256 {
		var want members
		for to := range 256 {
			want[to] = to >= from
			if got := charset.Range(byte(from), byte(to)); got != want.set() {
				t.Fatalf("Range(%d, %d) is %x; want %x", from, to, got, want.set())
			}
		}
	}
}

// someSets are the empty set, the full one, and some with bytes at the ends of each word.
func someSets() []members {
	even := func(c int) bool { return c%2 == 0 }
	list := []members{modelOf(""), modelOf(every()), modelOf(edges()), modelOf(edges()).not(), where(even)}
	for _, c := range []byte(edges()) {
		list = append(list, modelOf(string([]byte{c})), modelOf(string([]byte{c})).not())
	}
	for _, s := range []string{"hello", "\x00\xff", "\x3f\x40", "@A", "~\x7f\x80", "\xbf\xc0\xc1"} {
		list = append(list, modelOf(s))
	}
	return list
}

// P14.1: complements.
func TestNot(t *testing.T) {
	for _, m := range someSets() {
		checkSet(t, "Not("+m.show()+")", charset.Not(m.set()), m.not())
	}
	if charset.Not(api.Set{}) != charset.Range(0, 255) || charset.Not(charset.Range(0, 255)) != (api.Set{}) {
		t.Error("the empty set and the full one are not each other's complements")
	}
}

// P14.1: unions and intersections.
func TestOrAnd(t *testing.T) {
	for _, m := range someSets() {
		for _, n := range someSets() {
			checkSet(t, "Or("+m.show()+", "+n.show()+")", charset.Or(m.set(), n.set()), m.or(n))
			checkSet(t, "And("+m.show()+", "+n.show()+")", charset.And(m.set(), n.set()), m.and(n))
		}
	}
}

// R4: what is passed stays as it was.
func TestArgumentsStay(t *testing.T) {
	a, b := charset.Of("abc"), charset.Of("cd")
	charset.Not(a)
	charset.Or(a, b)
	charset.And(a, b)
	charset.Show(a)
	if a != charset.Of("abc") || b != charset.Of("cd") {
		t.Error("an argument was changed")
	}
}

// P14.2: sets of no byte, one, several, 128, 129, 255 and 256 bytes.
func TestBytes(t *testing.T) {
	for _, x := range []struct {
		set  api.Set
		want string
	}{
		{api.Set{}, ""},
		{charset.Of("x"), "x"},
		{charset.Of("\x00"), "\x00"},
		{charset.Of("\xff"), "\xff"},
		{charset.Of("hello"), "ehlo"},
		{charset.Of("\xff\x00"), "\x00\xff"},
		{charset.Of("\xc0\x80\x40\x3f"), "\x3f\x40\x80\xc0"},
		{charset.Range(0, 127), every()[:128]},
		{charset.Range(128, 255), every()[128:]},
		{charset.Range(0, 128), every()[:129]},
		{charset.Range(127, 255), every()[127:]},
		{charset.Not(charset.Of("\x00")), every()[1:]},
		{charset.Not(charset.Of("\xff")), every()[:255]},
		{charset.Not(charset.Of("\x80")), every()[:128] + every()[129:]},
		{charset.Range(0, 255), every()},
	} {
		if got := charset.Bytes(x.set); got != x.want {
			t.Errorf("the bytes are %q; want %q", got, x.want)
		}
		if n := charset.Count(x.set); n != len(x.want) {
			t.Errorf("%q: the number of bytes is %d; want %d", x.want, n, len(x.want))
		}
		checkSet(t, fmt.Sprintf("the set of %.20q", x.want), x.set, modelOf(x.want))
	}
}

// P14.2: each byte of each set that contains exactly one, and of each that lacks exactly one.
func TestHas(t *testing.T) {
	for c := range 256 {
		var a api.Set
		a[c/64] = 1 << (c % 64)
		for d := range 256 {
			if charset.Has(a, byte(d)) != (c == d) {
				t.Fatalf("the set of %d: Has(%d) is %t", c, d, c != d)
			}
			if charset.Has(charset.Not(a), byte(d)) != (c != d) {
				t.Fatalf("the set without %d: Has(%d) is %t", c, d, c == d)
			}
		}
	}
}
