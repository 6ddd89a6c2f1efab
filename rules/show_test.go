package rules_test

import (
	"slices"
	"strings"
	"testing"

	"collimator/api"
	"collimator/rules"
)

// P16.2: texts that are names.
func TestName(t *testing.T) {
	for _, s := range []string{"a", "b", "m", "y", "z", "aa", "a0", "a9", "a_", "z_9_", "a________________"[:16], "abcdefghijklmnop", "qrstuvwxyz", "z123456789012345"} {
		if !rules.Name(s) {
			t.Errorf("%q is no name", s)
		}
	}
}

// P16.2: texts that are none.
func TestNoName(t *testing.T) {
	for _, s := range []string{
		"", "0", "9", "_", "0a", "9a", "_a", "__", "A", "Z", "aA", "Aa", "abC", "a b", " a", "a ", "a\n", "\na", "a\r", "a\x00", "a-b", "a=", "#a", "a#", "a.b",
		"\u00e9", "a\u00e9", "a\xff", "\xffa", "\xc3", "a\ufffd", "\u0430", "\u0661", "a\u0661", "`", "{", "a`", "a{", "a/", "a:", "a@", "a[", "a^",
		"abcdefghijklmnopq", "z1234567890123456", strings.Repeat("a", 1<<16), strings.Repeat("a", 1<<16+1),
	} {
		if rules.Name(s) {
			t.Errorf("%q is a name", s)
		}
	}
}

// P16.2: each byte as the first and as another one of a name.
func TestNameBytes(t *testing.T) {
	for c := range 256 {
		s := string([]byte{byte(c)})
		letter := 'a' <= c && c <= 'z'
		if rules.Name(s) != letter || rules.Name(s+"b") != letter {
			t.Errorf("a name that begins with %q: %v, want %v", s, rules.Name(s), letter)
		}
		want := letter || '0' <= c && c <= '9' || c == '_'
		for _, name := range []string{"a" + s, "a" + s + "b", "abcdefghijklmno" + s} {
			if rules.Name(name) != want {
				t.Errorf("Name(%q) is not %v", name, want)
			}
		}
	}
}

// P16.2: no rules, one rule, several.
func TestShow(t *testing.T) {
	for _, c := range []struct {
		l    []api.Rule
		want string
	}{
		{nil, ""},
		{[]api.Rule{}, ""},
		{pairs("a", "x"), "a = x\n"},
		{pairs("a", "x", "b", "[a-z]+"), "a = x\nb = [a-z]+\n"},
		{pairs("b", "y", "a", "x", "c", "z"), "b = y\na = x\nc = z\n"},
		{pairs("let", "let", "word", "[a-z]+ # x"), "let = let\nword = [a-z]+ # x\n"},
		{numbered(2), "ra0 = z\nrb0 = z\n"},
	} {
		if s := rules.Show(c.l); s != c.want {
			t.Errorf("Show(%q) is %q; want %q", c.l, s, c.want)
		}
	}
}

// P16.2: rules that no file has are shown as they are.
func TestShowAny(t *testing.T) {
	for _, c := range []struct {
		l    []api.Rule
		want string
	}{
		{pairs("", ""), " = \n"},
		{pairs("", "x"), " = x\n"},
		{pairs("a", ""), "a = \n"},
		{pairs("", "", "", ""), " = \n = \n"},
		{pairs("A b", "("), "A b = (\n"},
		{pairs("a", "x", "a", "x"), "a = x\na = x\n"},
		{pairs(" a ", " x\n"), " a  =  x\n\n"},
		{pairs("\xff\x00", "\x80"), "\xff\x00 = \x80\n"},
		{pairs(strings.Repeat("n", 17), strings.Repeat("x", 9000)), strings.Repeat("n", 17) + " = " + strings.Repeat("x", 9000) + "\n"},
		{numbered(33)[32:], "rg1 = z\n"},
	} {
		if s := rules.Show(c.l); s != c.want {
			t.Errorf("Show(%q) is %q; want %q", c.l, s, c.want)
		}
	}
}

// R4: the rules that are shown are not changed, nor those in the memory behind them.
func TestShowKeeps(t *testing.T) {
	l := pairs("a", "x", "b", "y", "c", "z")
	before := slices.Clone(l)
	if s := rules.Show(l[:2]); s != "a = x\nb = y\n" {
		t.Errorf("Show is %q", s)
	}
	if !slices.Equal(l, before) {
		t.Errorf("the rules are %q", l)
	}
}
