package rules_test

import (
	"slices"
	"strings"
	"testing"

	"collimator/api"
	"collimator/rules"
)

// numbered are rules with different names of two letters.
func numbered(n int) []api.Rule {
	var l []api.Rule
	for i := range n {
		l = append(l, api.Rule{Name: "r" + string(rune('A'+32+i%26)) + string(rune('0'+i/26)), Text: "z"})
	}
	return l
}

// P16.1: 32 rules are parsed; the name of one more is an error, if it is one and another one than those before.
func TestMostRules(t *testing.T) {
	l := numbered(32)
	s := rules.Show(l) // 8 bytes a line
	if got, b := rules.Parse(s); !slices.Equal(got, l) || b.Deep() != 0 {
		t.Errorf("%d rules of 32, %s", len(got), b.Say())
	}
	if got, b := rules.Parse("\n# x\n" + s + "\n \n# y"); !slices.Equal(got, l) || b.Deep() != 0 {
		t.Errorf("%d rules of 32 with other lines, %s", len(got), b.Say())
	}
	if got, b := rules.Parse(rules.Show(l[:31])); !slices.Equal(got, l[:31]) || b.Deep() != 0 {
		t.Errorf("%d rules of 31, %s", len(got), b.Say())
	}
	checkFault(t, s+"last = x", "big at 256")
	checkFault(t, s+"\n# x\n \t last = x\nlast = y\n", "big at 264")
	checkFault(t, s+"last = (", "big at 256")
	checkFault(t, s+"last = x*", "big at 256")
	checkFault(t, s+"last =", "big at 256")
	checkFault(t, s+"last", "form at 260")
	checkFault(t, s+"Last = x", "name at 256")
	checkFault(t, s+"ra0 = x", "twice at 256")
	checkFault(t, s+"rf1 = x", "twice at 256")
	checkFault(t, s+"rg1 = x", "big at 256")
	checkFault(t, rules.Show(numbered(40)), "big at 256")
}

// P16.1: 8192 bytes are parsed; with one more nothing else is told.
func TestLongestFile(t *testing.T) {
	checkFile(t, "a=x\n#"+strings.Repeat("y", 8187), "a", "x")
	checkFile(t, strings.Repeat("\n", 8189)+"a=x", "a", "x")
	checkFile(t, strings.Repeat(" ", 8189)+"a=x", "a", "x")
	checkFile(t, "a=x"+strings.Repeat(" ", 8189), "a", "x")
	checkFile(t, "a"+strings.Repeat("\t", 4000)+"="+strings.Repeat("\r", 4000)+"x"+strings.Repeat(" ", 189), "a", "x")
	checkFault(t, strings.Repeat("#", 8192), "empty at 8192")
	checkFault(t, strings.Repeat("\n", 8192), "empty at 8192")
	checkFault(t, "a="+strings.Repeat(" ", 8190), "match at 8192")
	checkFault(t, "a"+strings.Repeat(" ", 8191), "form at 8192")
	checkFault(t, strings.Repeat(" ", 8191)+"=", "name at 8191")
	for _, s := range []string{"a=x\n#" + strings.Repeat("y", 8188), strings.Repeat("#", 8193), strings.Repeat("\n", 8193), strings.Repeat("=", 8193), strings.Repeat("a=x\n", 4096), strings.Repeat("a", 1<<20)} {
		checkFault(t, s, "big at 8192")
	}
}

// P16.1: expressions at the limits of package regex.
func TestLongestExpression(t *testing.T) {
	long := "[" + strings.Repeat("x", 510) + "]"
	checkFile(t, "a = "+long, "a", long)
	checkFile(t, " abcdefghijklmnop = "+long+"  \r\nb="+long, "abcdefghijklmnop", long, "b", long)
	checkFault(t, "a = "+long+"y", "form at 4: big at 512")
	checkFault(t, "a=x\n b ="+strings.Repeat("(", 600), "form at 8: big at 512")
	checkFault(t, "a = x"+strings.Repeat(" ", 512)+"x", "form at 4: big at 512")
	nodes := strings.Repeat("x", 399)
	checkFile(t, "a = "+nodes, "a", nodes)
	checkFault(t, "a = "+nodes+"x", "form at 4: big at 0")
}
