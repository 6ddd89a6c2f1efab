package charset_test

import (
	"fmt"
	"testing"

	"collimator/api"
	"collimator/charset"
)

// P14.3: the chapter's examples.
func TestExamples(t *testing.T) {
	checkShow(t, "example 1", charset.Of("a"), "a")
	checkShow(t, "example 1", charset.Range('a', 'e'), "[a-e]")
	checkShow(t, "example 1", charset.Not(charset.Of("\n")), "[^\\n]")
	checkShow(t, "example 1", charset.Of("]x"), "[\\]x]")
}

// P14.3: the 16 bytes that are preceded by a backslash, and no others of 33 to 126.
func TestShowEscapes(t *testing.T) {
	const special = "\\[](){}*+?|.-^/\""
	for c := byte(33); c <= 126; c++ {
		want := string(rune(c))
		for _, d := range []byte(special) {
			if c == d {
				want = "\\" + want
			}
		}
		checkShow(t, fmt.Sprintf("the byte %d", c), charset.Of(string(rune(c))), want)
	}
	if n := charset.Count(charset.Of(special)); n != 16 {
		t.Errorf("there are %d special bytes", n)
	}
}

// P14.3: the bytes outside 33 to 126 around which the notation changes.
func TestShowOthers(t *testing.T) {
	for c, want := range map[byte]string{
		0: "\\x00", 1: "\\x01", 8: "\\x08", 9: "\\t", 10: "\\n", 11: "\\x0b", 13: "\\x0d", 15: "\\x0f", 16: "\\x10", 27: "\\x1b", 31: "\\x1f", 32: "\\s",
		127: "\\x7f", 128: "\\x80", 154: "\\x9a", 160: "\\xa0", 171: "\\xab", 205: "\\xcd", 239: "\\xef", 254: "\\xfe", 255: "\\xff",
	} {
		checkShow(t, fmt.Sprintf("the byte %d", c), charset.Range(c, c), want)
	}
}

// far is a byte that is no neighbour of the bytes from c - 2 to c + 2.
func far(c int) int {
	return (c + 100) % 256
}

// P14.3: each byte alone, in a list, as the first and as the last one of a run, and all of these behind the ^.
func TestShowEachByte(t *testing.T) {
	for c := range 256 {
		one := charset.Range(byte(c), byte(c))
		checkShow(t, fmt.Sprintf("the byte %d", c), one, modelByte(c))
		checkShow(t, fmt.Sprintf("all but %d", c), charset.Not(one), "[^"+modelByte(c)+"]")
		pair := modelByte(min(c, far(c))) + modelByte(max(c, far(c)))
		two := charset.Or(one, charset.Range(byte(far(c)), byte(far(c))))
		checkShow(t, fmt.Sprintf("%d in a list", c), two, "["+pair+"]")
		checkShow(t, fmt.Sprintf("%d in a list behind the ^", c), charset.Not(two), "[^"+pair+"]")
		if c+2 <= 255 {
			checkRun(t, c, c+2)
		}
		if c-3 >= 0 {
			checkRun(t, c-3, c)
		}
	}
}

func checkRun(t *testing.T, from, to int) {
	t.Helper()
	a := charset.Range(byte(from), byte(to))
	want := modelByte(from) + "-" + modelByte(to) + "]"
	checkShow(t, fmt.Sprintf("%d to %d", from, to), a, "["+want)
	checkShow(t, fmt.Sprintf("all but %d to %d", from, to), charset.Not(a), "[^"+want)
}

// P14.3: no byte, 128, 129, 255 and 256 bytes.
func TestShowSizes(t *testing.T) {
	odd := where(func(c int) bool { return c%2 == 1 })
	for _, x := range []struct {
		what string
		set  api.Set
		want string
	}{
		{"no byte", api.Set{}, "[]"},
		{"the first 127", charset.Range(0, 126), "[\\x00-~]"},
		{"the first 128", charset.Range(0, 127), "[\\x00-\\x7f]"},
		{"the last 128", charset.Range(128, 255), "[\\x80-\\xff]"},
		{"the first 129", charset.Range(0, 128), "[^\\x81-\\xff]"},
		{"the last 129", charset.Range(127, 255), "[^\\x00-~]"},
		{"128 in two runs", charset.Not(charset.Range(64, 191)), "[\\x00-\\?\\xc0-\\xff]"},
		{"128 bytes one by one", odd.set(), odd.show()},
		{"129 bytes", charset.Or(odd.set(), charset.Of("\x00")), "[^" + odd.not().show()[len("[\\x00"):]},
		{"all but the first", charset.Range(1, 255), "[^\\x00]"},
		{"all but the last", charset.Range(0, 254), "[^\\xff]"},
		{"all but ]", charset.Not(charset.Of("]")), "[^\\]]"},
		{"all", charset.Range(0, 255), "[^]"},
	} {
		checkShow(t, x.what, x.set, x.want)
	}
}

// P14.3: runs of two, three and more bytes, several of them, and at both ends.
func TestShowRuns(t *testing.T) {
	for s, want := range map[string]string{
		"ab":                               "ab",
		"abc":                              "a-c",
		"abcd":                             "a-d",
		"abd":                              "abd",
		"acd":                              "acd",
		"ace":                              "ace",
		"abcefg":                           "a-ce-g",
		"abcefghjk":                        "a-ce-hjk",
		"abefgi":                           "abe-gi",
		"acdefh":                           "ac-fh",
		"-./":                              "\\--\\/",
		",-.":                              ",-\\.",
		"+,-":                              "\\+-\\-",
		"[\\]":                             "\\[-\\]",
		"]^-":                              "\\-\\]\\^",
		"^ab":                              "\\^ab",
		"\x00\x01":                         "\\x00\\x01",
		"\x00\x01\x02":                     "\\x00-\\x02",
		"\x00\x01\x02\x03\x05":             "\\x00-\\x03\\x05",
		"\xfe\xff":                         "\\xfe\\xff",
		"\xfd\xfe\xff":                     "\\xfd-\\xff",
		"\xfb\xfd\xfe\xff":                 "\\xfb\\xfd-\\xff",
		"\x00\xff":                         "\\x00\\xff",
		"\x00\x01\xff":                     "\\x00\\x01\\xff",
		"\x00\x01\xfe\xff":                 "\\x00\\x01\\xfe\\xff",
		"\x3e\x3f\x40":                     ">-@",
		"\x3f\x40":                         "\\?@",
		"\x7e\x7f\x80\x81":                 "~-\\x81",
		"\xbf\xc0\xc1":                     "\\xbf-\\xc1",
		"\t\n":                             "\\t\\n",
		"\t\n\v":                           "\\t-\\x0b",
		"\b\t\n":                           "\\x08-\\n",
		"\x1f !":                           "\\x1f-!",
		"\x1e\x1f ":                        "\\x1e-\\s",
		"\x00\x01\x02\x04\x05\x06\x08\x09": "\\x00-\\x02\\x04-\\x06\\x08\\t",
	} {
		checkShow(t, fmt.Sprintf("%q", s), charset.Of(s), "["+want+"]")
		checkShow(t, fmt.Sprintf("all but %q", s), charset.Not(charset.Of(s)), "[^"+want+"]")
	}
}

// P14.3: all ranges; the list of one is that of a run, or of one or two bytes.
func TestShowEveryRange(t *testing.T) {
	for from := range 256 {
		for to := from; to < 256; to++ {
			want := where(func(c int) bool { return from <= c && c <= to })
			checkShow(t, fmt.Sprintf("%d to %d", from, to), charset.Range(byte(from), byte(to)), want.show())
			checkShow(t, fmt.Sprintf("all but %d to %d", from, to), charset.Not(charset.Range(byte(from), byte(to))), want.not().show())
		}
	}
}
