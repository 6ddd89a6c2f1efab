package rules_test

import (
	"math/rand"
	"slices"
	"strings"
	"testing"

	"collimator/api"
	"collimator/rules"
)

// checkRound expects that rules that were parsed are parsed again from what Show returns, unless that is too long (P16.3).
func checkRound(t *testing.T, l []api.Rule) {
	t.Helper()
	s := rules.Show(l)
	if len(s) > 8192 {
		checkFault(t, s, "big at 8192")
		return
	}
	again, b := rules.Parse(s)
	if !slices.Equal(again, l) || b.Deep() != 0 {
		t.Fatalf("%q shown and parsed is %q, %s", l, again, b.Say())
	}
	if rules.Show(again) != s {
		t.Fatalf("%q shown again is another file", l)
	}
}

// check expects what the model says of a file, and the round of its rules, if it has some.
func check(t *testing.T, s string) bool {
	t.Helper()
	l := checkModel(t, s)
	if len(l) > 0 {
		checkRound(t, l)
	}
	return len(l) > 0
}

// every calls a function with all texts of up to some pieces.
func every(pieces []string, most int, f func(s string)) {
	texts := []string{""}
	for range most + 1 {
		var longer []string
		for _, s := range texts {
			f(s)
			for _, x := range pieces {
				longer = append(longer, s+x)
			}
		}
		texts = longer
	}
}

// P16.1, P16.3: all short files of some pieces, against the model.
func TestShortFiles(t *testing.T) {
	every([]string{"a", "b", "=", "\n", " ", "#", "*", "(", "\xff"}, 5, func(s string) { check(t, s) })
	every([]string{"a", "=", "\r\n", "\t", "_", "1"}, 6, func(s string) { check(t, s) })
	every([]string{"a=", "b =", "x", "\n", " ", "#", "*", "A"}, 5, func(s string) { check(t, s) })
}

// P16.1: all short lines behind a rule, against the model.
func TestShortLines(t *testing.T) {
	every([]string{"a", "b", "=", "x", " ", "#", "?", "\\"}, 5, func(s string) { check(t, "a=x\n"+s) })
}

// pick is one of some texts.
func pick(r *rand.Rand, some ...string) string {
	return some[r.Intn(len(some))]
}

// someBlanks are up to three blanks.
func someBlanks(r *rand.Rand) string {
	var s string
	for range r.Intn(4) {
		s += pick(r, " ", "\t", "\r")
	}
	return s
}

// someName is a name that is mostly right, and mostly a new one.
func someName(r *rand.Rand, number int) string {
	if r.Intn(200) == 0 {
		return pick(r, "", "9", "_a", "B", "a", "a-b", "abcdefghijklmnopq", "\xff")
	}
	s := "n" + string(rune('a'+number%26)) + string(rune('a'+number/26))
	for range r.Intn(14) {
		s += pick(r, "a", "z", "0", "9", "_", "q")
	}
	return s
}

// someText is an expression that is mostly right.
func someText(r *rand.Rand) string {
	if r.Intn(200) == 0 {
		return pick(r, "", "(", "x*", "[]", "x{31}", "()", "\\", "x |", "*")
	}
	s := pick(r, "x", "[a-z]", ".", "#", "=", "\xff", "\\d")
	for range r.Intn(12) {
		s += pick(r, "y", " ", "\t", "#", "=", "+", "|z", "(a|b)*", "\\w{2,3}", "[ #]", "\xc3\xa9", "\x80", "\r")
	}
	if r.Intn(20) == 0 {
		s += strings.Repeat("abc", r.Intn(160))
	}
	return s
}

// someFile is a file of lines that are mostly right.
func someFile(r *rand.Rand) string {
	var b strings.Builder
	lines := r.Intn(36)
	for i := range lines {
		switch r.Intn(12) {
		case 0:
			b.WriteString(someBlanks(r))
		case 1:
			b.WriteString(someBlanks(r) + "#" + someText(r))
		default:
			b.WriteString(someBlanks(r) + someName(r, i) + someBlanks(r) + pick(r, "=", "=", "=", " = ") + someBlanks(r) + someText(r) + someBlanks(r))
		}
		if i+1 < lines || r.Intn(2) == 0 {
			b.WriteString("\n")
		}
	}
	return b.String()
}

// P16.1, P16.3: many files, against the model, and their rules in the round.
func TestManyFiles(t *testing.T) {
	r := rand.New(rand.NewSource(16))
	parsed := 0
	for range 6000 {
		if check(t, someFile(r)) {
			parsed++
		}
	}
	if parsed < 2000 {
		t.Errorf("only %d of 6000 files were parsed", parsed)
	}
}

// P16.1: many files of which some bytes are changed, against the model.
func TestManyFaults(t *testing.T) {
	r := rand.New(rand.NewSource(61))
	for range 6000 {
		s := []byte(someFile(r))
		for range 1 + r.Intn(3) {
			if len(s) > 0 {
				s[r.Intn(len(s))] = pick(r, "\n", " ", "=", "#", "(", "a", "A", "\xff", "*")[0]
			}
		}
		check(t, string(s))
	}
}

// P16.3: the file that Show returns may be longer than the one that was parsed; at 8192 bytes it is parsed again, beyond it is not.
func TestRoundLongest(t *testing.T) {
	for _, extra := range []int{-1, 0, 1, 2} {
		var s strings.Builder
		for i := range 16 {
			text := "[" + strings.Repeat("x", 504) + "]" // 16 lines of 512 bytes are shown
			if i == 15 {
				text = "[" + strings.Repeat("x", 504+extra) + "]"
			}
			s.WriteString("n" + string(rune('a'+i)) + "=" + text + "\n")
		}
		l, b := rules.Parse(s.String())
		if len(l) != 16 || b.Deep() != 0 {
			t.Fatalf("%d rules, %s", len(l), b.Say())
		}
		if n := len(rules.Show(l)); n != 8192+extra {
			t.Fatalf("%d bytes are shown", n)
		}
		checkRound(t, l)
	}
}

func FuzzParse(f *testing.F) {
	for _, s := range []string{"a = x+ # no\n\n# remark\nb=y", "a = (", " \ta=\r\n", "a=x\na=y", "\xff=\xc3\xa9", "a = x\\ ", strings.Repeat("a=x\n", 40)} {
		f.Add(s)
	}
	f.Fuzz(func(t *testing.T, s string) {
		check(t, s)
	})
}

// P16.2: a name is what can be the name of a rule of a file.
func FuzzName(f *testing.F) {
	for _, s := range []string{"", "a", "a_9", "9a", "A", "a b", "abcdefghijklmnop", "abcdefghijklmnopq", "a\xff"} {
		f.Add(s)
	}
	f.Fuzz(func(t *testing.T, s string) {
		l, _ := rules.Parse(s + "=x")
		rule := slices.Equal(l, pairs(s, "x"))
		if rules.Name(s) != rule || rules.Name(s) != named.MatchString(s) {
			t.Errorf("Name(%q) is %v; a rule of that name: %v", s, rules.Name(s), rule)
		}
	})
}
