package regex_test

import (
	"slices"
	"strings"
	"testing"

	"collimator/api"
	"collimator/regex"
)

// P15.1: the chapter's first example.
func TestParseExample(t *testing.T) {
	checkTree(t, "a|b*", []api.Node{
		{Kind: api.RAlt, Kids: 2},
		{Kind: api.RSet, Set: api.Set{0, 1 << ('a' - 64)}},
		{Kind: api.RStar, Kids: 1},
		{Kind: api.RSet, Set: api.Set{0, 1 << ('b' - 64)}},
	})
	checkFault(t, "(a", api.ErrOpen, 0)
	checkFault(t, "*", api.ErrChar, 0)
	checkFault(t, "[b-a]", api.ErrRange, 2)
}

// P15.1: each kind of node, and parts without a byte.
func TestParseKinds(t *testing.T) {
	a, b, c := set("a"), set("b"), set("c")
	for s, want := range map[string][]api.Node{
		"":              none(),
		"()":            none(),
		"(())":          none(),
		"()()":          cat(none(), none()),
		"a":             a,
		"(a)":           a,
		"((a))":         a,
		"abc":           cat(a, b, c),
		"(ab)c":         cat(cat(a, b), c),
		"a(bc)":         cat(a, cat(b, c)),
		"(abc)":         cat(a, b, c),
		"()a":           cat(none(), a),
		"a|b":           alt(a, b),
		"a|b|c":         alt(a, b, c),
		"(a|b)|c":       alt(alt(a, b), c),
		"a|(b|c)":       alt(a, alt(b, c)),
		"(a|b|c)":       alt(a, b, c),
		"a|":            alt(a, none()),
		"|a":            alt(none(), a),
		"|":             alt(none(), none()),
		"||":            alt(none(), none(), none()),
		"a||b":          alt(a, none(), b),
		"(|)":           alt(none(), none()),
		"(|)|":          alt(alt(none(), none()), none()),
		"()|a":          alt(none(), a),
		"ab|c":          alt(cat(a, b), c),
		"a|bc":          alt(a, cat(b, c)),
		"(a|b)c":        cat(alt(a, b), c),
		"a(b|)c":        cat(a, alt(b, none()), c),
		"a*":            star(a),
		"a+":            plus(a),
		"a?":            opt(a),
		"()*":           star(none()),
		"ab*":           cat(a, star(b)),
		"(ab)*":         star(cat(a, b)),
		"a*b":           cat(star(a), b),
		"a|b*":          alt(a, star(b)),
		"(a|b)+":        plus(alt(a, b)),
		"a*?":           opt(star(a)),
		"a**":           star(star(a)),
		"a*+?{2}":       repeat(2, 2, opt(plus(star(a)))),
		"(a*)*":         star(star(a)),
		"((a|b)c)?|a":   alt(opt(cat(alt(a, b), c)), a),
		"((a(b)))(|c)*": cat(cat(a, b), star(alt(none(), c))),
	} {
		checkTree(t, s, want)
		if got, e, at := model(s); e != api.OK || at != 0 || !slices.Equal(got, want) {
			t.Errorf("the model of %q is %v, %d, %d; want %v", s, got, e, at, want)
		}
	}
}

// P15.1: each form of a repetition's numbers.
func TestParseNumbers(t *testing.T) {
	a := set("a")
	for s, want := range map[string][]api.Node{
		"a{0}":        repeat(0, 0, a),
		"a{00}":       repeat(0, 0, a),
		"a{1}":        repeat(1, 1, a),
		"a{01}":       repeat(1, 1, a),
		"a{9}":        repeat(9, 9, a),
		"a{10}":       repeat(10, 10, a),
		"a{30}":       repeat(30, 30, a),
		"a{0,}":       repeat(0, -1, a),
		"a{7,}":       repeat(7, -1, a),
		"a{30,}":      repeat(30, -1, a),
		"a{0,0}":      repeat(0, 0, a),
		"a{0,1}":      repeat(0, 1, a),
		"a{2,2}":      repeat(2, 2, a),
		"a{2,03}":     repeat(2, 3, a),
		"a{9,10}":     repeat(9, 10, a),
		"a{12,28}":    repeat(12, 28, a),
		"a{0,30}":     repeat(0, 30, a),
		"a{30,30}":    repeat(30, 30, a),
		"a{2}{3}":     repeat(3, 3, repeat(2, 2, a)),
		"a{2,}{0,1}*": star(repeat(0, 1, repeat(2, -1, a))),
		"(a{2})+{4,}": repeat(4, -1, plus(repeat(2, 2, a))),
		"(){5}":       repeat(5, 5, none()),
		"a,{2}":       cat(a, repeat(2, 2, set(","))),
		"12":          cat(set("1"), set("2")),
		"a{1}2":       cat(repeat(1, 1, a), set("2")),
	} {
		checkTree(t, s, want)
	}
}

// P15.1: each escape, outside and inside of a class.
func TestParseEscapes(t *testing.T) {
	digits, letters := between('0', '9'), union(between('A', 'Z'), between('a', 'z'))
	for s, want := range map[string]api.Set{
		`\n`: among("\n"), `\t`: among("\t"), `\s`: among(" "),
		`\d`: digits, `\w`: union(union(digits, letters), among("_")),
		`\x00`: among("\x00"), `\x09`: among("\t"), `\x5d`: among("]"), `\xa0`: among("\xa0"), `\xff`: among("\xff"), `\xbf`: among("\xbf"),
		`\\`: among(`\`), `\[`: among("["), `\]`: among("]"), `\(`: among("("), `\)`: among(")"), `\{`: among("{"), `\}`: among("}"), `\*`: among("*"),
		`\+`: among("+"), `\?`: among("?"), `\|`: among("|"), `\.`: among("."), `\-`: among("-"), `\^`: among("^"), `\/`: among("/"), `\"`: among(`"`),
	} {
		checkTree(t, s, of(want))
		checkTree(t, "["+s+"]", of(want))
		checkTree(t, "["+s+"!]", of(union(want, among("!"))))
		checkTree(t, "[^"+s+"]", of(except(want)))
		checkTree(t, "0"+s+"0", cat(set("0"), of(want), set("0")))
		checkTree(t, s+"*", star(of(want)))
	}
}

// P15.1: each byte that represents itself: all but 12 outside of a class, all but 3 inside.
func TestParseBytes(t *testing.T) {
	for c := range 256 {
		s := string([]byte{byte(c)})
		if !strings.Contains(`\[](){}*+?|.`, s) {
			checkTree(t, s, set(s))
			checkTree(t, "("+s+")+", plus(set(s)))
		}
		if !strings.Contains(`\]-`, s) {
			checkTree(t, "[a"+s+"]", of(among("a"+s)))
			checkTree(t, "[^a"+s+"]", of(except(among("a"+s))))
		}
		if !strings.Contains(`\]-^`, s) {
			checkTree(t, "["+s+"]", set(s))
		}
	}
	checkTree(t, ".", of(except(among("\n"))))
	checkTree(t, ".-.", cat(of(except(among("\n"))), set("-"), of(except(among("\n")))))
}

// P15.1: classes.
func TestParseClasses(t *testing.T) {
	for s, want := range map[string]api.Set{
		"[a]":              among("a"),
		"[aa]":             among("a"),
		"[cab]":            among("abc"),
		"[a-c]":            among("abc"),
		"[a-a]":            among("a"),
		"[a-cx-z]":         among("abcxyz"),
		"[a-cb-d]":         among("abcd"),
		"[_a-c0]":          among("_abc0"),
		"[^a]":             except(among("a")),
		"[^a-c]":           except(among("abc")),
		"[^^]":             except(among("^")),
		"[a^]":             among("a^"),
		"[\\^]":            among("^"),
		"[\\^a]":           among("^a"),
		"[!-^]":            between('!', '^'),
		"[^^-a]":           except(between('^', 'a')),
		"[^]":              between(0, 255),
		"[.]":              among("."),
		"[*+?|(){}[]":      among("*+?|(){}["),
		"[[]":              among("["),
		"[\\]]":            among("]"),
		"[\\-]":            among("-"),
		"[+\\-.]":          among("+-."),
		"[+-\\-]":          among("+,-"),
		"[\\--/]":          among("-./"),
		"[\\x00-\\xff]":    between(0, 255),
		"[\x00-\xff]":      between(0, 255),
		"[\\x41-C]":        among("ABC"),
		"[\\t-\\n]":        among("\t\n"),
		"[\\s-\\\"]":       among(" !\""),
		"[\\d]":            between('0', '9'),
		"[\\da]":           union(between('0', '9'), among("a")),
		"[\\d\\w]":         union(union(between('0', '9'), among("_")), union(between('A', 'Z'), between('a', 'z'))),
		"[^\\d]":           except(between('0', '9')),
		"[a-c\\d]":         union(between('0', '9'), among("abc")),
		"[\\x00-ac-\\xff]": except(among("b")),
		"[\xc3\xa4]":       among("\xc3\xa4"),
	} {
		checkTree(t, s, of(want))
	}
	checkTree(t, "[a]-", cat(set("a"), set("-")))
	checkTree(t, "[a][^b]", cat(set("a"), of(except(among("b")))))
	checkTree(t, "x[ab]*|[(]", alt(cat(set("x"), star(set("ab"))), set("(")))
}

// R4: a result is memory of its own, with its spare capacity.
func TestParseMemory(t *testing.T) {
	one, _, _ := regex.Parse("(ab|c)*")
	two, _, _ := regex.Parse("(ab|c)*")
	clear(one[:cap(one)])
	checkTree(t, "(ab|c)*", two)
}
