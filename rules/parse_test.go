package rules_test

import (
	"slices"
	"strings"
	"testing"

	"collimator/rules"
)

// P16.1: the chapter's first example.
func TestParseExample(t *testing.T) {
	checkFile(t, "a = x+ # no\n\n# remark\nb=y", "a", "x+ # no", "b", "y")
}

// P16.1: files of one rule and of many, with and without a byte 10 at the end.
func TestParseRules(t *testing.T) {
	checkFile(t, "a=x", "a", "x")
	checkFile(t, "a=x\n", "a", "x")
	checkFile(t, "a = x\nb = y", "a", "x", "b", "y")
	checkFile(t, "a = x\nb = y\n", "a", "x", "b", "y")
	checkFile(t, "b = y\na = x\n", "b", "y", "a", "x")
	checkFile(t, "c = x\nb = x\na = x\n", "c", "x", "b", "x", "a", "x")
	checkFile(t, "let = let\nword = [a-z]+\n", "let", "let", "word", "[a-z]+")
	checkFile(t, "ab = x\na = x\nabc = x\na_ = x\na1 = x", "ab", "x", "a", "x", "abc", "x", "a_", "x", "a1", "x")
}

// P16.1: empty lines and lines of blanks, before, between and behind rules.
func TestParseEmptyLines(t *testing.T) {
	checkFile(t, "\na=x", "a", "x")
	checkFile(t, "\n\n\na=x\n\n\n", "a", "x")
	checkFile(t, "a=x\n\nb=y", "a", "x", "b", "y")
	for _, blank := range []string{" ", "\t", "\r", " \t\r", "\r\r", "   "} {
		checkFile(t, blank+"\na=x", "a", "x")
		checkFile(t, "a=x\n"+blank, "a", "x")
		checkFile(t, "a=x\n"+blank+"\n", "a", "x")
		checkFile(t, "a=x\n"+blank+"\n"+blank+"\nb=y", "a", "x", "b", "y")
	}
}

// P16.1: comments, and what is none.
func TestParseComments(t *testing.T) {
	for _, c := range []string{"#", "##", "# a = x", "#a = x", "#a = (", "# \xff\x00", " #", "\t#x", "\r# x", " \t\r #\r", "#\r"} {
		checkFile(t, c+"\nb=y", "b", "y")
		checkFile(t, "b=y\n"+c, "b", "y")
		checkFile(t, "b=y\n"+c+"\n", "b", "y")
		checkFile(t, "b=y\n"+c+"\n"+c+"\nc=y", "b", "y", "c", "y")
	}
	checkFile(t, "a = #", "a", "#")
	checkFile(t, "a=#x", "a", "#x")
	checkFile(t, "a = x#", "a", "x#")
	checkFile(t, "a = x # y # z", "a", "x # y # z")
	checkFile(t, "a = x\n#\nb = #\n", "a", "x", "b", "#")
}

// P16.1: each blank, and some, before and after each part of a line, and none.
func TestParseBlanks(t *testing.T) {
	blanks := []string{"", " ", "\t", "\r", "  ", " \t\r", "\r\r \t"}
	for _, before := range blanks {
		for _, after := range blanks {
			for _, behind := range blanks {
				for _, last := range blanks {
					line := before + "a" + after + "=" + behind + "x y" + last
					checkFile(t, line, "a", "x y")
					checkFile(t, line+"\n", "a", "x y")
					checkFile(t, "b=z\n"+line+"\n"+"c=z", "b", "z", "a", "x y", "c", "z")
				}
			}
		}
	}
}

// P16.1: within an expression a blank is a byte like others, and bytes that other programs take for blanks are none.
func TestParseInnerBlanks(t *testing.T) {
	checkFile(t, "a = x \t\r y", "a", "x \t\r y")
	checkFile(t, "a = [ ]", "a", "[ ]")
	checkFile(t, "a = [ \t]+ ", "a", "[ \t]+")
	checkFile(t, "a = ( |x )+\t", "a", "( |x )+")
	checkFile(t, "a = \v", "a", "\v")
	checkFile(t, "a = \f\v", "a", "\f\v")
	checkFile(t, "a = \x00", "a", "\x00")
	checkFile(t, "a = \u00a0", "a", "\u00a0")
	checkFile(t, "a = \u2003\u2028\u3000 ", "a", "\u2003\u2028\u3000")
	checkFile(t, "a = \x85\xa0 ", "a", "\x85\xa0")
}

// P16.1: lines that end with a byte 13 and a byte 10.
func TestParseReturns(t *testing.T) {
	checkFile(t, "a = x\r\nb = y\r\n\r\n# c\r\nc=z\r", "a", "x", "b", "y", "c", "z")
	checkFile(t, "a = x\r\r\n", "a", "x")
	checkFile(t, "a = x\rb = y\n", "a", "x\rb = y")
}

// P16.1: an = in an expression is a byte like others.
func TestParseSigns(t *testing.T) {
	checkFile(t, "a==", "a", "=")
	checkFile(t, "a = =", "a", "=")
	checkFile(t, "a === =", "a", "== =")
	checkFile(t, "a=b=c", "a", "b=c")
}

// P16.1: bytes that are no characters, at each end of an expression, are kept.
func TestParseBytes(t *testing.T) {
	for c := range 256 {
		s := string([]byte{byte(c)})
		if strings.Contains("\\[](){}*+?|.\n \t\r", s) {
			continue
		}
		checkFile(t, "a="+s, "a", s)
		checkFile(t, "a = "+s+" \r\n", "a", s)
		checkFile(t, "a = "+s+" "+s+"\t", "a", s+" "+s)
		checkFile(t, "a = x"+s+" "+s+"x\n", "a", "x"+s+" "+s+"x")
	}
	checkFile(t, "a = \xe2\x82", "a", "\xe2\x82")
	checkFile(t, "a = \xe2\x82 ", "a", "\xe2\x82")
	checkFile(t, "a = \xc3\xa9\xf0\x9f\x98\x80 ", "a", "\xc3\xa9\xf0\x9f\x98\x80")
	checkFile(t, "a = \xef\xbf\xbd ", "a", "\xef\xbf\xbd")
}

// P16.1: the names of rules, of each kind of byte, and up to 16 bytes.
func TestParseNames(t *testing.T) {
	for _, s := range []string{"a", "z", "m", "a_", "a0", "a9", "z__", "a_b_c", "abcdefghijklmnop", "qrstuvwxyz012345", "a6789___________", "z123456789012345"} {
		checkFile(t, s+"=x", s, "x")
		checkFile(t, " "+s+" = x", s, "x")
		checkFile(t, "b=y\n"+s+"=x", "b", "y", s, "x")
	}
}

// R4: two results share no memory.
func TestParseAgain(t *testing.T) {
	const s = "a=x\nb=y"
	first, _ := rules.Parse(s)
	second, _ := rules.Parse(s)
	for i := range first {
		first[i].Name, first[i].Text = "z", "z"
	}
	first = append(first[:1], pairs("z", "z", "z", "z", "z", "z")...)
	third, _ := rules.Parse(s)
	for _, l := range [][]string{{second[0].Name, second[0].Text}, {third[0].Name, third[0].Text}} {
		if !slices.Equal(l, []string{"a", "x"}) {
			t.Errorf("the first rule is %q, after %q has been changed", l, first)
		}
	}
	if len(second) != 2 || second[1].Text != "y" || third[1].Text != "y" {
		t.Errorf("the rules are %q and %q", second, third)
	}
}
