package regex_test

import (
	"testing"

	"collimator/api"
)

// A fault is an expression with its error and the offset.
type fault struct {
	s  string
	e  api.Errno
	at int
}

func checkFaults(t *testing.T, list []fault) {
	t.Helper()
	for _, f := range list {
		checkFault(t, f.s, f.e, f.at)
		if l, e, at := model(f.s); len(l) != 0 || e != f.e || at != f.at {
			t.Errorf("the model of %q is %v, %d, %d; want %d, %d", f.s, l, e, at, f.e, f.at)
		}
	}
}

// P15.1: ErrChar at a byte that cannot occur there.
func TestFaultChar(t *testing.T) {
	checkFaults(t, []fault{
		{"*", api.ErrChar, 0}, {"+", api.ErrChar, 0}, {"?", api.ErrChar, 0}, {"{2}", api.ErrChar, 0}, {"{", api.ErrChar, 0},
		{"}", api.ErrChar, 0}, {"]", api.ErrChar, 0}, {")", api.ErrChar, 0},
		{"a}", api.ErrChar, 1}, {"a]", api.ErrChar, 1}, {"a)", api.ErrChar, 1}, {"a*)", api.ErrChar, 2},
		{"|*", api.ErrChar, 1}, {"a|+", api.ErrChar, 2}, {"a|b|{1}", api.ErrChar, 4},
		{"(*", api.ErrChar, 1}, {"(?a)", api.ErrChar, 1}, {"(+)", api.ErrChar, 1}, {"(a|{1})", api.ErrChar, 3}, {"({})", api.ErrChar, 1},
		{"(a))", api.ErrChar, 3}, {"()))", api.ErrChar, 2}, {"(]", api.ErrChar, 1}, {"(a}", api.ErrChar, 2}, {"|)", api.ErrChar, 1},
		{"[a]]", api.ErrChar, 3}, {"a{1}}", api.ErrChar, 4}, {"[a])", api.ErrChar, 3},
	})
}

// P15.1: ErrChar at an escape that there is not: the offset is that of the byte after the backslash.
func TestFaultEscape(t *testing.T) {
	checkFaults(t, []fault{
		{`\`, api.ErrChar, 1}, {`ab\`, api.ErrChar, 3}, {`(\`, api.ErrChar, 2}, {`[\`, api.ErrChar, 2}, {`[a-\`, api.ErrChar, 4}, {`([a\`, api.ErrChar, 4},
		{`\q`, api.ErrChar, 1}, {`a\q`, api.ErrChar, 2}, {`\N`, api.ErrChar, 1}, {`\D`, api.ErrChar, 1}, {`\W`, api.ErrChar, 1}, {`\S`, api.ErrChar, 1},
		{`\X41`, api.ErrChar, 1}, {`\r`, api.ErrChar, 1}, {`\0`, api.ErrChar, 1}, {`\ `, api.ErrChar, 1}, {`\,`, api.ErrChar, 1}, {`\'`, api.ErrChar, 1}, {"\\\n", api.ErrChar, 1},
		{`\x`, api.ErrChar, 1}, {`\x4`, api.ErrChar, 1}, {`\x4g`, api.ErrChar, 1}, {`\xg4`, api.ErrChar, 1}, {`\x4A`, api.ErrChar, 1}, {`\xA4`, api.ErrChar, 1},
		{`\x+1`, api.ErrChar, 1}, {`\x 1`, api.ErrChar, 1}, {`a\x`, api.ErrChar, 2}, {`\x4(`, api.ErrChar, 1}, {"\\x/0", api.ErrChar, 1}, {"\\x0:", api.ErrChar, 1}, {"\\x0`", api.ErrChar, 1},
		{`(\x`, api.ErrChar, 2}, {`(\x4`, api.ErrChar, 2}, {`[\x`, api.ErrChar, 2}, {`[\x4`, api.ErrChar, 2}, {`[\x4]`, api.ErrChar, 2}, {`[a-\x4]`, api.ErrChar, 4},
		{`[\q]`, api.ErrChar, 2}, {`[a\q]`, api.ErrChar, 3}, {`[a-\q]`, api.ErrChar, 4}, {`[^\q]`, api.ErrChar, 3}, {`(a\q`, api.ErrChar, 3}, {`[\d-\q]`, api.ErrChar, 5},
	})
}

// P15.1: ErrChar in a class.
func TestFaultClass(t *testing.T) {
	checkFaults(t, []fault{
		{"[-a]", api.ErrChar, 1}, {"[-]", api.ErrChar, 1}, {"[^-a]", api.ErrChar, 2}, {"[-", api.ErrChar, 1},
		{"[a-]", api.ErrChar, 3}, {"[^a-]", api.ErrChar, 4}, {`[\d-]`, api.ErrChar, 4}, {"[ab-]", api.ErrChar, 4}, {"[a-]b]", api.ErrChar, 3},
		{"[a--]", api.ErrChar, 3}, {"[a--z]", api.ErrChar, 3}, {"[a-b-c]", api.ErrChar, 4}, {"[a-b-", api.ErrChar, 4}, {"[a-b-]", api.ErrChar, 4}, {"([a-]", api.ErrChar, 4},
	})
}

// P15.1: ErrChar in the numbers of a repetition, and where the text ends there.
func TestFaultNumbers(t *testing.T) {
	checkFaults(t, []fault{
		{"a{", api.ErrChar, 2}, {"a{}", api.ErrChar, 2}, {"a{x}", api.ErrChar, 2}, {"a{,}", api.ErrChar, 2}, {"a{,3}", api.ErrChar, 2}, {"a{-1}", api.ErrChar, 2}, {"a{ 1}", api.ErrChar, 2},
		{"a{1", api.ErrChar, 3}, {"a{1x}", api.ErrChar, 3}, {"a{1 }", api.ErrChar, 3}, {"a{12", api.ErrChar, 4}, {"a{123}", api.ErrChar, 4}, {"a{001}", api.ErrChar, 4}, {"a{12-}", api.ErrChar, 4},
		{"a{1,", api.ErrChar, 4}, {"a{1,x}", api.ErrChar, 4}, {"a{1,,}", api.ErrChar, 4}, {"a{1,2", api.ErrChar, 5}, {"a{1,2x", api.ErrChar, 5}, {"a{1,2,}", api.ErrChar, 5},
		{"a{1,12", api.ErrChar, 6}, {"a{1,123}", api.ErrChar, 6}, {"a{1,12,3}", api.ErrChar, 6}, {"a{12,12x", api.ErrChar, 7},
		{"(a{", api.ErrChar, 3}, {"(a{1", api.ErrChar, 4}, {"(a{12", api.ErrChar, 5}, {"(a{1,", api.ErrChar, 5}, {"(a{1,2", api.ErrChar, 6}, {"(a{1)", api.ErrChar, 4},
		{"a{/}", api.ErrChar, 2}, {"a{:}", api.ErrChar, 2},
	})
}

// P15.1: ErrOpen at the last bracket that is not closed.
func TestFaultOpen(t *testing.T) {
	checkFaults(t, []fault{
		{"(", api.ErrOpen, 0}, {"a(", api.ErrOpen, 1}, {"(a", api.ErrOpen, 0}, {"(a|", api.ErrOpen, 0}, {"(|", api.ErrOpen, 0}, {"(a*", api.ErrOpen, 0}, {"(a{2}", api.ErrOpen, 0},
		{"((", api.ErrOpen, 1}, {"((a", api.ErrOpen, 1}, {"((a)", api.ErrOpen, 0}, {"(a)(b", api.ErrOpen, 3}, {"(a(b)(c", api.ErrOpen, 5}, {"(((a)b)c", api.ErrOpen, 0}, {"(()(", api.ErrOpen, 3},
		{"[", api.ErrOpen, 0}, {"[^", api.ErrOpen, 0}, {"[a", api.ErrOpen, 0}, {"[^a", api.ErrOpen, 0}, {"x[a-", api.ErrOpen, 1}, {"[a-b", api.ErrOpen, 0}, {"[^a-", api.ErrOpen, 0}, {`[\d-`, api.ErrOpen, 0}, {`[a\]`, api.ErrOpen, 0},
		{"([a", api.ErrOpen, 1}, {"([a]", api.ErrOpen, 0}, {"(a[b", api.ErrOpen, 2}, {"[(", api.ErrOpen, 0}, {"[a(b)", api.ErrOpen, 0}, {"[[", api.ErrOpen, 0}, {"([a-", api.ErrOpen, 1}, {"(a|[", api.ErrOpen, 3}, {"(a)[", api.ErrOpen, 3},
	})
}

// P15.1: ErrRange at the minus sign of an item, and at the { of a repetition.
func TestFaultRange(t *testing.T) {
	checkFaults(t, []fault{
		{"[b-a]", api.ErrRange, 2}, {"[^b-a]", api.ErrRange, 3}, {"x[z-a]", api.ErrRange, 3}, {"[a-cz-y]", api.ErrRange, 5}, {`[\xff-\x00]`, api.ErrRange, 5}, {`[\n-\t]`, api.ErrRange, 3}, {"[\x80-\x7f]", api.ErrRange, 2},
		{`[\d-a]`, api.ErrRange, 3}, {`[\w-\xff]`, api.ErrRange, 3}, {`[a-\d]`, api.ErrRange, 2}, {`[\x00-\w]`, api.ErrRange, 5}, {`[\d-\d]`, api.ErrRange, 3}, {`[\d-\w]`, api.ErrRange, 3}, {`[\d-9]`, api.ErrRange, 3}, {`[0-\d]`, api.ErrRange, 2},
		{"a{31}", api.ErrRange, 1}, {"a{99}", api.ErrRange, 1}, {"a{31,}", api.ErrRange, 1}, {"a{31,32}", api.ErrRange, 1}, {"a{31,30}", api.ErrRange, 1}, {"a{0,31}", api.ErrRange, 1}, {"a{30,31}", api.ErrRange, 1},
		{"a{3,2}", api.ErrRange, 1}, {"a{1,0}", api.ErrRange, 1}, {"a{30,29}", api.ErrRange, 1}, {"a{10,9}", api.ErrRange, 1}, {"(a){2}{40}", api.ErrRange, 6}, {"(a{2,1})", api.ErrRange, 2},
	})
}

// P15.1: ErrEmpty at the [ of a class whose set is empty.
func TestFaultEmpty(t *testing.T) {
	checkFaults(t, []fault{
		{"[]", api.ErrEmpty, 0}, {"a[]", api.ErrEmpty, 1}, {"([])", api.ErrEmpty, 1}, {"[]a]", api.ErrEmpty, 0}, {"[]]", api.ErrEmpty, 0}, {"[]-a]", api.ErrEmpty, 0},
		{`[^\x00-\xff]`, api.ErrEmpty, 0}, {"ab[^\x00-\xff]", api.ErrEmpty, 2}, {`[^\x00-ab-\xff]`, api.ErrEmpty, 0},
	})
}

// P15.1: of two errors, the one that a parse from left to right finds first; what is found at the end of an item, a repetition or a class only there.
func TestFaultFirst(t *testing.T) {
	checkFaults(t, []fault{
		{"[b-a", api.ErrRange, 2}, {"([b-a]", api.ErrRange, 3}, {`[\d-a`, api.ErrRange, 3}, {`[b-a\q]`, api.ErrRange, 2}, {`[b-\q]`, api.ErrChar, 4}, {`[b-a-c]`, api.ErrRange, 2},
		{`[b-\x6`, api.ErrChar, 4}, {`[\d-\`, api.ErrChar, 5}, {`[\d--]`, api.ErrChar, 4},
		{"a{31", api.ErrChar, 4}, {"a{31,", api.ErrChar, 5}, {"a{3,2", api.ErrChar, 5}, {"a{31x}", api.ErrChar, 4}, {"a{31}*)", api.ErrRange, 1}, {"(a{31}", api.ErrRange, 2}, {"(a{3,1}[b-a]", api.ErrRange, 2},
		{"(*[]", api.ErrChar, 1}, {"[](", api.ErrEmpty, 0}, {"([]", api.ErrEmpty, 1}, {"[])", api.ErrEmpty, 0}, {"[]{31}", api.ErrEmpty, 0}, {"(a[b-a]", api.ErrRange, 4},
		{`[^\x00-\xff`, api.ErrOpen, 0}, {"[^\x00-\xffb-a]", api.ErrRange, 6}, {`a)\q`, api.ErrChar, 1}, {`\q)`, api.ErrChar, 1}, {"(a]", api.ErrChar, 2}, {"(()]", api.ErrChar, 3},
		{"a)*", api.ErrChar, 1}, {"*(", api.ErrChar, 0}, {`[a-\q`, api.ErrChar, 4},
	})
}
